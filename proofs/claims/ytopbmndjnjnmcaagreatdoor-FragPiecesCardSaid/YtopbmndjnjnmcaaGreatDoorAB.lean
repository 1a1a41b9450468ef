/- Package fragment: texts A5, A6, A7, A8, A9, A10, A11, A12, A13, A14, A15, A16, A17, A18, A19, A20, in one. -/
import Derived.WalkKit
import Derived.WalkLawsBesides
import Derived.WalkSpells
import Derived.Lib.Hide
import Derived.Test.YtopbmndjnjnmcaaGreatDoorA4
import Derived.Laws.EntriesVeiled
import Derived.WalkSmall
import Derived.Lib.QuietBelow
import Derived.BigQuiet
import Derived.Deep.QuietTactic
import Derived.Deep.RegionHeld3
import Derived.BigRegion
import Derived.RegionTactic
import Derived.ChangeAlike
import Derived.Maps.AppendAt
import Derived.RangeFuncBox
import Derived.RangeFuncNested
import Derived.RangeFuncBound
import Derived.RangeFuncCalls
import Derived.RangeFuncLeaves
import Derived.Shelf.Abstract
import Derived.Shelf.RegionOpen
import Derived.OwnWalkIn
import Derived.TacticsInMore
import Derived.LoopNIn
import Derived.LoopIn
import Derived.Recover
import Derived.RecoverIn
import Derived.Laws.Pointers
import Derived.RegionIn
import Derived.BigRegionIn
import Derived.Deep.AppendLies
import Derived.Deep.DrawnRows
/- (A5) -/
/- Package lex: the rules keyword, hash and sign. -/
namespace Go.Proofs.YtopbmndjnjnmcaaGreatDoor
open Go.RowKit Lx

/-- The bytes at which the rules look. -/
def qLook (s : ByteArray) (i : Nat) : Bs := (s.data.toList.drop i).take 100

theorem bl (w : World) (n : Nat) : Below w.heap.size w (w.drewN n) := below_drewN (Below.refl _ _) n

set_option maxHeartbeats 400000 in
theorem keyword_any (s : ByteArray) (b i t : Nat) (op : Bool) (hi : i < s.size) (hs : s.size ≤ 20000) (w : World) (hc : Cut w b s i t op) :
    Calls Tryz.prog 178 #[.pointer (some ⟨b, 0, none⟩)] w fun e w' => e = .returned (.int .i64 (qKey (qLook s i) : Nat)) ∧ Below w.heap.size w w' := by
  obtain ⟨h0, h1, _, _⟩ := hc
  have HC := Lib.hid h0
  have HD := Lib.hid h1
  clear h0 h1
  go_enter Tryz.func178, Tryz.ntmps178
  go_wp2_with fail
  refine (reach_r s b i hi hs _ HC.out HD.out).mono ?_
  rintro e w' ⟨r, n, rfl, rfl, hR, hr1, hr2⟩
  go_wp2_with fail
  refine (plain_r r (by unfold maxLen; omega) _).mono ?_
  rintro e w1 ⟨m, rfl, hM, hm, hb1⟩
  have hb := (bl w n).trans hb1
  by_cases hm0 : 0 < m
  · cases hq : qColon (r.data.toList.drop m)
    all_goals
      go_wp2_with (go_at_call 193; refine (isColon_ex _ _ _).mono ?_; rintro e w' ⟨rfl, rfl⟩)
      go_ret
      exact ⟨ret_int (by rw [show qLook s i = r.data.toList from hR.out.symm]; simp [qKey, hM.out, hm0, hq]), hb⟩
  · go_wp2_with fail
    go_ret
    exact ⟨ret_int (by rw [show qLook s i = r.data.toList from hR.out.symm]; simp [qKey, hM.out, hm0]), hb⟩

set_option maxHeartbeats 400000 in
theorem hash_any (s : ByteArray) (b i t : Nat) (op : Bool) (hi : i < s.size) (hs : s.size ≤ 20000) (w : World) (hc : Cut w b s i t op) :
    Calls Tryz.prog 179 #[.pointer (some ⟨b, 0, none⟩)] w fun e w' => e = .returned (.int .i64 (qHash (qLook s i) : Nat)) ∧ Below w.heap.size w w' := by
  obtain ⟨h0, h1, _, _⟩ := hc
  have HC := Lib.hid h0
  have HD := Lib.hid h1
  clear h0 h1
  go_enter Tryz.func179, Tryz.ntmps179
  go_wp2_with fail
  refine (reach_r s b i hi hs _ HC.out HD.out).mono ?_
  rintro e w' ⟨r, n, rfl, rfl, hR, hr1, hr2⟩
  have hb := bl w n
  by_cases h1 : r.data.toList.take 2 = [35, 116]
  · go_wp2_with (go_at_call 172; refine (hasPrefix_r _ _ _).mono ?_; rintro e w' ⟨rfl, rfl⟩)
    go_ret
    exact ⟨ret_int (by rw [show qLook s i = r.data.toList from hR.out.symm]; simp [qHash, h1]), hb⟩
  · by_cases h2 : r.data.toList.take 2 = [35, 102]
    · have b1 : (r.data.toList.take 2 == [35, 116]) = false := by simpa using h1
      have b2 : (r.data.toList.take 2 == [35, 102]) = true := by simpa using h2
      have hv : Hid (qHash r.data.toList = 2) := by unfold qHash; rw [b1, b2]; rfl
      clear h1 h2
      go_wp2_with (go_at_call 172; refine (hasPrefix_r _ _ _).mono ?_; rintro e w' ⟨rfl, rfl⟩)
      go_ret
      exact ⟨ret_int (by rw [show qLook s i = r.data.toList from hR.out.symm, hv.out]; rfl), hb⟩
    · have b1 : (r.data.toList.take 2 == [35, 116]) = false := by simpa using h1
      have b2 : (r.data.toList.take 2 == [35, 102]) = false := by simpa using h2
      have hv : Hid (qHash r.data.toList = 0) := by unfold qHash; rw [b1, b2]; rfl
      clear h1 h2
      go_wp2_with (go_at_call 172; refine (hasPrefix_r _ _ _).mono ?_; rintro e w' ⟨rfl, rfl⟩)
      go_ret
      exact ⟨ret_int (by rw [show qLook s i = r.data.toList from hR.out.symm, hv.out]; rfl), hb⟩

theorem idx_mem (l : Bs) (c : UInt8) : (0 : Int) ≤ Lib.indexByte l c ↔ l.contains c = true := by
  induction l with
  | nil => simp [Lib.indexByte]
  | cons a t ih =>
    simp only [Lib.indexByte, List.contains_cons]
    by_cases h : a = c
    · subst h; simp
    · have h' : (c == a) = false := by simpa using fun e : c = a => h e.symm
      have h : ¬ (a == c) = true := by simpa using h
      rw [if_neg h, h', Bool.false_or, ← ih]
      by_cases h2 : Lib.indexByte t c == -1
      · rw [if_pos h2]; have : Lib.indexByte t c = -1 := by simpa using h2
        omega
      · rw [if_neg h2]
        have : Lib.indexByte t c ≠ -1 := by simpa using h2
        have : -1 ≤ Lib.indexByte t c := by
          clear ih h2 h h' this
          induction t with
          | nil => simp [Lib.indexByte]
          | cons a t ih => simp only [Lib.indexByte]; split; · omega
                           · split <;> omega
        omega

/-- sign, where the first two bytes are a sign. -/
def Two (r : ByteArray) : Prop := qTwo.contains (r.data.toList.take 2) = true

theorem sign_cases (r : ByteArray) (h : 0 < r.size) :
    (1 < r.size ∧ ((r.extract 0 2).toList == [58, 61]) = true ∧ Hid (qSign r.data.toList = 2)) ∨
    (1 < r.size ∧ ((r.extract 0 2).toList == [58, 61]) = false ∧ ((r.extract 0 2).toList == [58, 58]) = true ∧ Hid (qSign r.data.toList = 2)) ∨
    (1 < r.size ∧ ((r.extract 0 2).toList == [58, 61]) = false ∧ ((r.extract 0 2).toList == [58, 58]) = false ∧ ((r.extract 0 2).toList == [61, 62]) = true ∧ Hid (qSign r.data.toList = 2)) ∨
    (1 < r.size ∧ ((r.extract 0 2).toList == [58, 61]) = false ∧ ((r.extract 0 2).toList == [58, 58]) = false ∧ ((r.extract 0 2).toList == [61, 62]) = false ∧ ((r.extract 0 2).toList == [61, 61]) = true ∧ Hid (qSign r.data.toList = 2)) ∨
    (1 < r.size ∧ ((r.extract 0 2).toList == [58, 61]) = false ∧ ((r.extract 0 2).toList == [58, 58]) = false ∧ ((r.extract 0 2).toList == [61, 62]) = false ∧ ((r.extract 0 2).toList == [61, 61]) = false ∧ ((r.extract 0 2).toList == [60, 61]) = true ∧ Hid (qSign r.data.toList = 2)) ∨
    (1 < r.size ∧ ((r.extract 0 2).toList == [58, 61]) = false ∧ ((r.extract 0 2).toList == [58, 58]) = false ∧ ((r.extract 0 2).toList == [61, 62]) = false ∧ ((r.extract 0 2).toList == [61, 61]) = false ∧ ((r.extract 0 2).toList == [60, 61]) = false ∧ ((r.extract 0 2).toList == [62, 61]) = true ∧ Hid (qSign r.data.toList = 2)) ∨
    (1 < r.size ∧ ((r.extract 0 2).toList == [58, 61]) = false ∧ ((r.extract 0 2).toList == [58, 58]) = false ∧ ((r.extract 0 2).toList == [61, 62]) = false ∧ ((r.extract 0 2).toList == [61, 61]) = false ∧ ((r.extract 0 2).toList == [60, 61]) = false ∧ ((r.extract 0 2).toList == [62, 61]) = false ∧ Hid (qSign r.data.toList = if (0 : Int) ≤ Lib.indexByte qOne r[0] then 1 else 0)) ∨
    (r.size ≤ 1 ∧ Hid (qSign r.data.toList = if (0 : Int) ≤ Lib.indexByte qOne r[0] then 1 else 0)) := by
  have e2 : (r.extract 0 2).toList = r.data.toList.take 2 := by
    have := Lib.extract_toList r 0 2; simpa using this
  have hh : r.data.toList.head? = some r[0] := by
    cases hl : r.data.toList with
    | nil =>
      have h3 : r.data.toList.length = r.size := by simp
      rw [hl] at h3; simp at h3; omega
    | cons a t =>
      have h4 : r.data.toList[0]'(by simpa using h) = r[0] := rfl
      simp only [hl, List.getElem_cons_zero] at h4
      simp [h4]
  have hv : qTwo.contains (r.data.toList.take 2) = false → qSign r.data.toList = if (0 : Int) ≤ Lib.indexByte qOne r[0] then 1 else 0 := by
    intro ht
    unfold qSign
    rw [ht, hh]
    by_cases hm : qOne.contains r[0] = true
    · rw [if_pos ((idx_mem _ _).2 hm)]; simp only [hm]; rfl
    · rw [if_neg (fun h => hm ((idx_mem _ _).1 h))]; simp only [hm]; rfl
  have hw : qTwo.contains (r.data.toList.take 2) = true → qSign r.data.toList = 2 := by
    intro ht; unfold qSign; rw [ht]; rfl
  simp only [e2]
  have hlen : (r.data.toList.take 2).length = min 2 r.size := by simp
  generalize r.data.toList.take 2 = T at *
  by_cases hs : 1 < r.size
  · by_cases c1 : T = [58, 61]
    · exact .inl ⟨hs, by simp [c1], Lib.hid (hw (by rw [c1]; decide))⟩
    · by_cases c2 : T = [58, 58]
      · exact .inr (.inl ⟨hs, by simp [c1], by simp [c2], Lib.hid (hw (by rw [c2]; decide))⟩)
      · by_cases c3 : T = [61, 62]
        · exact .inr (.inr (.inl ⟨hs, by simp [c1], by simp [c2], by simp [c3], Lib.hid (hw (by rw [c3]; decide))⟩))
        · by_cases c4 : T = [61, 61]
          · exact .inr (.inr (.inr (.inl ⟨hs, by simp [c1], by simp [c2], by simp [c3], by simp [c4], Lib.hid (hw (by rw [c4]; decide))⟩)))
          · by_cases c5 : T = [60, 61]
            · exact .inr (.inr (.inr (.inr (.inl ⟨hs, by simp [c1], by simp [c2], by simp [c3], by simp [c4], by simp [c5], Lib.hid (hw (by rw [c5]; decide))⟩))))
            · by_cases c6 : T = [62, 61]
              · exact .inr (.inr (.inr (.inr (.inr (.inl ⟨hs, by simp [c1], by simp [c2], by simp [c3], by simp [c4], by simp [c5], by simp [c6], Lib.hid (hw (by rw [c6]; decide))⟩)))))
              · exact .inr (.inr (.inr (.inr (.inr (.inr (.inl ⟨hs, by simp [c1], by simp [c2], by simp [c3], by simp [c4], by simp [c5], by simp [c6], Lib.hid (hv (by simp [qTwo, c1, c2, c3, c4, c5, c6]))⟩))))))
  · refine .inr (.inr (.inr (.inr (.inr (.inr (.inr ⟨by omega, Lib.hid (hv ?_)⟩))))))
    have : T.length ≤ 1 := by omega
    match T, this with
    | [], _ => decide
    | [a], _ => simp [qTwo]

set_option maxHeartbeats 2000000 in
theorem sign_any (s : ByteArray) (b i t : Nat) (op : Bool) (hi : i < s.size) (hs : s.size ≤ 20000) (w : World) (hc : Cut w b s i t op) :
    Calls Tryz.prog 180 #[.pointer (some ⟨b, 0, none⟩)] w fun e w' => e = .returned (.int .i64 (qSign (qLook s i) : Nat)) ∧ Below w.heap.size w w' := by
  obtain ⟨h0, h1, _, _⟩ := hc
  have HC := Lib.hid h0
  have HD := Lib.hid h1
  clear h0 h1
  go_enter Tryz.func180, Tryz.ntmps180
  go_wp2_with fail
  refine (reach_r s b i hi hs _ HC.out HD.out).mono ?_
  rintro e w' ⟨r, n, rfl, rfl, hR, hr1, hr2⟩
  have hb := bl w n
  rcases sign_cases r hr1 with ⟨hz, c1, hv⟩ | ⟨hz, c1, c2, hv⟩ | ⟨hz, c1, c2, c3, hv⟩ | ⟨hz, c1, c2, c3, c4, hv⟩ | ⟨hz, c1, c2, c3, c4, c5, hv⟩ | ⟨hz, c1, c2, c3, c4, c5, c6, hv⟩ | ⟨hz, c1, c2, c3, c4, c5, c6, hv⟩ | ⟨hz, hv⟩
  iterate 6
    · go_wp2_with fail
      go_ret
      exact ⟨ret_int (by rw [show qLook s i = r.data.toList from hR.out.symm, hv.out]; rfl), hb⟩
  all_goals
    by_cases hx : (0 : Int) ≤ Lib.indexByte [40, 41, 91, 93, 123, 125, 44, 59, 46, 61, 60, 62, 43, 45, 42, 47, 38, 124, 126, 63] r[0]
    all_goals
      go_wp2_with (go_at_call 173; refine (Tryz.strings_IndexByte _ _ _).mono ?_; rintro e w' ⟨rfl, rfl⟩)
      go_ret
      exact ⟨ret_int (by rw [show qLook s i = r.data.toList from hR.out.symm, hv.out]; unfold qOne; split <;> first | rfl | omega), hb⟩
end Go.Proofs.YtopbmndjnjnmcaaGreatDoor

/- (A6) -/
/- Package lex: the rules integer, pattern and name. -/
namespace Go.Proofs.YtopbmndjnjnmcaaGreatDoor
open Go.RowKit Lx

theorem head_r (r : ByteArray) (h : 0 < r.size) : r.data.toList.head? = some r[0] := by
  cases hl : r.data.toList with
  | nil =>
    have h3 : r.data.toList.length = r.size := by simp
    rw [hl] at h3; simp at h3; omega
  | cons a t =>
    have h4 : r.data.toList[0]'(by simpa using h) = r[0] := rfl
    simp only [hl, List.getElem_cons_zero] at h4
    simp [h4]

theorem head_is (r : ByteArray) (h : 0 < r.size) (c : UInt8) : (r.data.toList.head? == some c) = ((r[0].toNat : Int) == (c.toNat : Int)) := by
  rw [head_r r h, Bool.eq_iff_iff, beq_iff_eq, beq_iff_eq, Option.some.injEq]
  exact ⟨fun e => by rw [e], fun e => UInt8.toNat_inj.1 (by omega)⟩

theorem bt {w W w2 : World} (h1 : Below w.heap.size w W) (h2 : Below W.heap.size W w2) : Below w.heap.size w w2 := h1.trans (h2.mono h1.size)
theorem run1_r (r : ByteArray) (hs : r.size ≤ 20000) (w : World) :
    Calls Tryz.prog 157 #[.string r, .int .i64 1] w fun e w' => ∃ k : Nat, e = .returned (.int .i64 k) ∧ Hid (qRun 1 r.data.toList = k) ∧ k ≤ r.size ∧ Below w.heap.size w w' :=
  (run_1 r (by unfold maxLen; omega) w).mono fun _ _ ⟨he, hb⟩ => ⟨qRun 1 r.data.toList, he, Lib.hid rfl, by have := qRun_le 1 r.data.toList; simpa using this, hb⟩

theorem qInt_minus (l : Bs) (op : Bool) (h : (l.head? == some 45 && !op) = true) (k : Nat) (hk : qRun 1 (l.drop 1) = k) : qInt l op = if 0 < k then 1 + k else 0 := by
  unfold qInt; simp only [h, if_true, hk]
theorem qInt_plain (l : Bs) (op : Bool) (h : (l.head? == some 45 && !op) = false) (k : Nat) (hk : qRun 1 l = k) : qInt l op = if 0 < k then k else 0 := by
  unfold qInt; simp only [h, if_false, Bool.false_eq_true, List.drop_zero, hk, Nat.zero_add]

set_option maxHeartbeats 1000000 in
theorem integer_any (s : ByteArray) (b i t : Nat) (op : Bool) (hi : i < s.size) (hs : s.size ≤ 20000) (w : World) (hc : Cut w b s i t op) :
    Calls Tryz.prog 177 #[.pointer (some ⟨b, 0, none⟩)] w fun e w' => e = .returned (.int .i64 (qInt (qLook s i) op : Nat)) ∧ Below w.heap.size w w' := by
  obtain ⟨h0, h1, _, h3⟩ := hc
  have HC := Lib.hid h0
  have HD := Lib.hid h1
  clear h0 h1
  go_enter Tryz.func177, Tryz.ntmps177
  go_wp2_with fail
  refine (reach_r s b i hi hs _ HC.out HD.out).mono ?_
  rintro e w' ⟨r, n, rfl, rfl, hR, hr1, hr2⟩
  have hb := bl w n
  have hh := Lib.hid (head_is r hr1 45)
  cases h45 : ((r[0].toNat : Int) == 45)
  · have hq := Lib.hid (qInt_plain r.data.toList op (by rw [hh.out]; show (((r[0].toNat : Int) == 45) && _) = false; rw [h45]; rfl))
    go_wp2_with fail
    refine (run1_r r (by omega) _).mono ?_
    rintro e w1 ⟨k, rfl, hK, hk, hb1⟩
    by_cases hk0 : 0 < k
    all_goals
      go_wp2_with fail
      go_ret
      exact ⟨ret_int (by rw [show qLook s i = r.data.toList from hR.out.symm, hq.out k hK.out]; simp [hk0]), bt hb hb1⟩
  · cases op
    · have hq := Lib.hid (qInt_minus r.data.toList false (by rw [hh.out]; show (((r[0].toNat : Int) == 45) && _) = true; rw [h45]; rfl))
      go_wp2_with fail
      refine (run1_ex r 1 (by omega) (by omega) _).mono ?_
      rintro e w1 ⟨k, rfl, hK, hk, hb1⟩
      by_cases hk0 : 0 < k
      all_goals
        go_wp2_with fail
        go_ret
        exact ⟨ret_int (by rw [show qLook s i = r.data.toList from hR.out.symm, hq.out k hK.out]; simp [hk0]), bt hb hb1⟩
    · have hq := Lib.hid (qInt_plain r.data.toList true (by simp))
      go_wp2_with fail
      refine (run1_r r (by omega) _).mono ?_
      rintro e w1 ⟨k, rfl, hK, hk, hb1⟩
      by_cases hk0 : 0 < k
      all_goals
        go_wp2_with fail
        go_ret
        exact ⟨ret_int (by rw [show qLook s i = r.data.toList from hR.out.symm, hq.out k hK.out]; simp [hk0]), bt hb hb1⟩

theorem qPat_0 (l : Bs) (h : (l.head? == some 63) = false) : qPat l = 0 := by
  unfold qPat; rw [h]; rfl
theorem qPat_1 (l : Bs) (h : (l.head? == some 63) = true) (hk : qPlain (l.drop 1) = 0) : qPat l = 0 := by
  unfold qPat; rw [if_pos h]; exact if_pos hk
theorem qPat_2 (l : Bs) (h : (l.head? == some 63) = true) (k : Nat) (hk : qPlain (l.drop 1) = k) (h0 : 0 < k) (hq : qColon (l.drop (k + 1)) = false) : qPat l = k + 1 := by
  unfold qPat; rw [if_pos h]; refine (if_neg (by omega)).trans ?_; simp only [hk, hq]; simp
theorem qPat_3 (l : Bs) (h : (l.head? == some 63) = true) (k : Nat) (hk : qPlain (l.drop 1) = k) (h0 : 0 < k) (hq : qColon (l.drop (k + 1)) = true) (j : Nat) (hj : qPlain (l.drop (k + 2)) = j) : qPat l = if 0 < j then k + 2 + j else k + 1 := by
  unfold qPat; rw [if_pos h]; refine (if_neg (by omega)).trans ?_; simp only [hk, hq, hj]; simp
theorem qColon_len (l : Bs) (h : qColon l = true) : 0 < l.length := by
  cases l with
  | nil => simp [qColon] at h
  | cons a t => simp

set_option maxHeartbeats 1000000 in
theorem pattern_any (s : ByteArray) (b i t : Nat) (op : Bool) (hi : i < s.size) (hs : s.size ≤ 20000) (w : World) (hc : Cut w b s i t op) :
    Calls Tryz.prog 181 #[.pointer (some ⟨b, 0, none⟩)] w fun e w' => e = .returned (.int .i64 (qPat (qLook s i) : Nat)) ∧ Below w.heap.size w w' := by
  obtain ⟨h0, h1, _, h3⟩ := hc
  have HC := Lib.hid h0
  have HD := Lib.hid h1
  clear h0 h1 h3
  go_enter Tryz.func181, Tryz.ntmps181
  go_wp2_with fail
  refine (reach_r s b i hi hs _ HC.out HD.out).mono ?_
  rintro e w' ⟨r, n, rfl, rfl, hR, hr1, hr2⟩
  have hb := bl w n
  have hl : Hid (qLook s i = r.data.toList) := Lib.hid hR.out.symm
  cases h63 : ((r[0].toNat : Int) != 63)
  · have hh : Hid ((r.data.toList.head? == some 63) = true) := by
      rw [head_is r hr1 63]; have : ((r[0].toNat : Int) == 63) = true := by simpa using h63
      exact this
    go_wp2_with fail
    refine (plain_ex r 1 (by omega) (by omega) _).mono ?_
    rintro e w1 ⟨k, rfl, hK, hk, hb1⟩
    have hb' := bt hb hb1
    by_cases hk0 : k = 0
    · subst hk0
      go_wp2_with fail
      go_ret
      exact ⟨ret_int (by rw [hl.out, qPat_1 _ hh.out hK.out]; rfl), hb'⟩
    · have hk1 : ((k : Int) == 0) = false := by simp; omega
      have hk2 : 0 < k := by omega
      clear hk0
      cases hq : qColon (r.data.toList.drop (k + 1))
      · have hv := Lib.hid (qPat_2 _ hh.out k hK.out hk2 hq)
        go_wp2_with (go_at_call 193; refine (isColon_ex _ _ _).mono ?_; rintro e w' ⟨rfl, rfl⟩)
        go_ret
        exact ⟨ret_int (by rw [hl.out, hv.out]; rfl), hb'⟩
      · have hv := Lib.hid (qPat_3 _ hh.out k hK.out hk2 hq)
        have hlen : k + 1 < r.size := by have := qColon_len _ hq; simp at this; omega
        go_wp2_with (go_at_call 193; refine (isColon_ex _ _ _).mono ?_; rintro e w' ⟨rfl, rfl⟩)
        refine (plain_ex r (k + 2) (by omega) (by omega) _).mono ?_
        rintro e w2 ⟨j, rfl, hJ, hj, hb2⟩
        by_cases hj0 : 0 < j
        all_goals
          go_wp2_with fail
          go_ret
          exact ⟨ret_int (by rw [hl.out, hv.out j hJ.out]; simp [hj0]; try omega), bt hb' hb2⟩
  · have hh : Hid ((r.data.toList.head? == some 63) = false) := by
      rw [head_is r hr1 63]; have : ((r[0].toNat : Int) == 63) = false := by simpa using h63
      exact this
    go_wp2_with fail
    go_ret
    exact ⟨ret_int (by rw [hl.out, qPat_0 _ hh.out]; rfl), hb⟩

theorem at_take (l : Bs) (m : Nat) (c : UInt8) : ((l.drop m).take 1 == [c]) = (l[m]? == some c) := by
  rw [← List.head?_drop]
  cases l.drop m <;> simp
theorem qName_1 (l : Bs) (m : Nat) (hm : qPlain l = m) (h : ((l.drop m).take 1 == [64]) = false) : qName l = m := by
  rw [at_take] at h; unfold qName; simp only [hm, h]; simp
theorem qName_2 (l : Bs) (m : Nat) (hm : qPlain l = m) (h : l.length ≤ m + 1) : qName l = m := by
  unfold qName; simp only [hm]; rw [List.getElem?_eq_none h]; simp
theorem qName_3 (r : ByteArray) (m : Nat) (hm : qPlain r.data.toList = m) (hlt : m + 1 < r.size) (h1 : cSmall r[m + 1].toNat = false) (h2 : cDigit r[m + 1].toNat = false) : qName r.data.toList = m := by
  unfold qName; simp only [hm]; rw [List.getElem?_eq_getElem (i := m + 1) (by simpa using hlt)]
  have : r.data.toList[m + 1]'(by simpa using hlt) = r[m + 1] := rfl
  simp only [this, h1, h2]; simp
theorem qName_4 (r : ByteArray) (m : Nat) (hm : qPlain r.data.toList = m) (h0 : 0 < m) (hlt : m + 1 < r.size) (h : ((r.data.toList.drop m).take 1 == [64]) = true) (h1 : (cSmall r[m + 1].toNat || cDigit r[m + 1].toNat) = true) (k : Nat) (hk : qRun 5 (r.data.toList.drop (m + 2)) = k) : qName r.data.toList = m + 2 + k := by
  rw [at_take] at h
  unfold qName; simp only [hm]; rw [List.getElem?_eq_getElem (i := m + 1) (by simpa using hlt)]
  have : r.data.toList[m + 1]'(by simpa using hlt) = r[m + 1] := rfl
  simp only [this, h1, h, h0, hk]; simp

set_option maxHeartbeats 1000000 in
theorem name_any (s : ByteArray) (b i t : Nat) (op : Bool) (hi : i < s.size) (hs : s.size ≤ 20000) (w : World) (hc : Cut w b s i t op) :
    Calls Tryz.prog 176 #[.pointer (some ⟨b, 0, none⟩)] w fun e w' => e = .returned (.int .i64 (qName (qLook s i) : Nat)) ∧ Below w.heap.size w w' := by
  obtain ⟨h0, h1, _, h3⟩ := hc
  have HC := Lib.hid h0
  have HD := Lib.hid h1
  clear h0 h1 h3
  go_enter Tryz.func176, Tryz.ntmps176
  go_wp2_with fail
  refine (reach_r s b i hi hs _ HC.out HD.out).mono ?_
  rintro e w' ⟨r, n, rfl, rfl, hR, hr1, hr2⟩
  have hl : Hid (qLook s i = r.data.toList) := Lib.hid hR.out.symm
  go_wp2_with fail
  refine (plain_r r (by unfold maxLen; omega) _).mono ?_
  rintro e w1 ⟨m, rfl, hM, hm, hb1⟩
  have hb := bt (bl w n) hb1
  by_cases hm0 : 0 < m
  · cases h64 : ((r.data.toList.drop m).take 1 == [64])
    · have hv := Lib.hid (qName_1 _ m hM.out h64)
      go_wp2_with (go_at_call 172; refine (hasPrefix_ex _ _ _ _).mono ?_; rintro e w' ⟨rfl, rfl⟩)
      go_ret
      exact ⟨ret_int (by rw [hl.out, hv.out]), hb⟩
    · by_cases hlt : m + 1 < r.size
      · cases hS : cSmall r[m + 1].toNat
        · cases hD : cDigit r[m + 1].toNat
          · have hv := Lib.hid (qName_3 r m hM.out hlt hS hD)
            go_wp2_with (first | (go_at_call 172; refine (hasPrefix_ex _ _ _ _).mono ?_; rintro e w' ⟨rfl, rfl⟩) | (go_at_call 175; refine (classesOf_lit _ _).mono ?_; rintro e w' ⟨rfl, rfl⟩))
            go_ret
            exact ⟨ret_int (by rw [hl.out, hv.out]), (hb.alloc hb.size _).alloc (hb.alloc hb.size _).size _⟩
          · have hv := Lib.hid (qName_4 r m hM.out hm0 hlt h64 (by rw [hD]; simp))
            go_wp2_with (first | (go_at_call 172; refine (hasPrefix_ex _ _ _ _).mono ?_; rintro e w' ⟨rfl, rfl⟩) | (go_at_call 175; refine (classesOf_lit _ _).mono ?_; rintro e w' ⟨rfl, rfl⟩))
            refine (run5_ex r (m + 2) (by omega) (by omega) _).mono ?_
            rintro e w2 ⟨k, rfl, hK, hk, hb2⟩
            go_wp2_with fail
            go_ret
            exact ⟨ret_int (by rw [hl.out, hv.out k hK.out]; omega), bt ((hb.alloc hb.size _).alloc (hb.alloc hb.size _).size _) hb2⟩
        · have hv := Lib.hid (qName_4 r m hM.out hm0 hlt h64 (by rw [hS]; simp))
          go_wp2_with (first | (go_at_call 172; refine (hasPrefix_ex _ _ _ _).mono ?_; rintro e w' ⟨rfl, rfl⟩) | (go_at_call 175; refine (classesOf_lit _ _).mono ?_; rintro e w' ⟨rfl, rfl⟩))
          refine (run5_ex r (m + 2) (by omega) (by omega) _).mono ?_
          rintro e w2 ⟨k, rfl, hK, hk, hb2⟩
          go_wp2_with fail
          go_ret
          exact ⟨ret_int (by rw [hl.out, hv.out k hK.out]; omega), bt ((hb.alloc hb.size _).alloc (hb.alloc hb.size _).size _) hb2⟩
      · have hv := Lib.hid (qName_2 r.data.toList m hM.out (by simp; omega))
        go_wp2_with (first | (go_at_call 172; refine (hasPrefix_ex _ _ _ _).mono ?_; rintro e w' ⟨rfl, rfl⟩))
        go_ret
        exact ⟨ret_int (by rw [hl.out, hv.out]), hb⟩
  · go_wp2_with fail
    go_ret
    exact ⟨ret_int (by rw [hl.out]; unfold qName; simp [hM.out, hm0]), hb⟩
end Go.Proofs.YtopbmndjnjnmcaaGreatDoor

/- (A7) -/
/- Package lex: longest. -/
namespace Go.Proofs.YtopbmndjnjnmcaaGreatDoor
open Go.RowKit Lx

/-- How much the rule at an index takes. -/
def qLen (l : Bs) (op : Bool) : Nat → Nat
  | 0 => qName l
  | 1 => qInt l op
  | 2 => qKey l
  | 3 => qHash l
  | 4 => qSign l
  | _ => qPat l
/-- The best of the first k rules. -/
def qB (l : Bs) (op : Bool) : Nat → Nat × Nat
  | 0 => (0, 0)
  | k + 1 => qBetter (qB l op k) (k + 1) (qLen l op k)
theorem qB_6 (l : Bs) (op : Bool) : qB l op 6 = qLongest l op := rfl

theorem rule_any (k : Nat) (hk : k < 6) (s : ByteArray) (b i t : Nat) (op : Bool) (hi : i < s.size) (hs : s.size ≤ 20000) (w : World) (hc : Cut w b s i t op) :
    Calls Tryz.prog (176 + k) #[.pointer (some ⟨b, 0, none⟩)] w fun e w' => e = .returned (.int .i64 (qLen (qLook s i) op k : Nat)) ∧ Below w.heap.size w w' := by
  have : k = 0 ∨ k = 1 ∨ k = 2 ∨ k = 3 ∨ k = 4 ∨ k = 5 := by omega
  rcases this with rfl | rfl | rfl | rfl | rfl | rfl
  · exact name_any s b i t op hi hs w hc
  · exact integer_any s b i t op hi hs w hc
  · exact keyword_any s b i t op hi hs w hc
  · exact hash_any s b i t op hi hs w hc
  · exact sign_any s b i t op hi hs w hc
  · exact pattern_any s b i t op hi hs w hc

theorem rule_ex (k f : Nat) (hk : k < 6) (hf : f = 176 + k) (s : ByteArray) (b i t : Nat) (op : Bool) (hi : i < s.size) (hs : s.size ≤ 20000) (w : World) (hc : Cut w b s i t op) :
    Calls Tryz.prog f #[.pointer (some ⟨b, 0, none⟩)] w fun e w' => ∃ m : Nat, e = .returned (.int .i64 m) ∧ Hid (qLen (qLook s i) op k = m) ∧ Below w.heap.size w w' := by
  subst hf
  exact (rule_any k hk s b i t op hi hs w hc).mono fun _ _ ⟨he, hb⟩ => ⟨_, he, Lib.hid rfl, hb⟩

/-- The list of the rules in memory. -/
def Rules (w : World) (r : Nat) : Prop := ∀ k : Nat, k < 6 → w.cell? ⟨r, 2 * k, none⟩ = some (.int .i64 ((k + 1 : Nat) : Int)) ∧ w.cell? ⟨r, 2 * k + 1, none⟩ = some (.func (.func (176 + k)) #[] #[])
theorem Rules.below {w w' : World} {r : Nat} (h : Rules w r) (hb : Below w.heap.size w w') : Rules w' r := fun k hk =>
  have lt := World.block_lt_of_cell? w _ (h k hk).1
  ⟨(hb.cell (p := ⟨r, 2 * k, none⟩) lt).trans (h k hk).1, (hb.cell (p := ⟨r, 2 * k + 1, none⟩) lt).trans (h k hk).2⟩
theorem Rules.new (w : World) : Rules (w.alloc (.cells #[.int .i64 1, .func (.func 176) #[] #[], .int .i64 2, .func (.func 177) #[] #[], .int .i64 3, .func (.func 178) #[] #[], .int .i64 4, .func (.func 179) #[] #[], .int .i64 5, .func (.func 180) #[] #[], .int .i64 6, .func (.func 181) #[] #[]] 214)) w.heap.size := by
  intro k hk
  have : k = 0 ∨ k = 1 ∨ k = 2 ∨ k = 3 ∨ k = 4 ∨ k = 5 := by omega
  rcases this with rfl | rfl | rfl | rfl | rfl | rfl <;> exact ⟨by simp [go_sem], by simp [go_sem]⟩

theorem qB_up (l : Bs) (op : Bool) (k K S m : Nat) (h : Hid (qB l op k = (K, S))) (hm : Hid (qLen l op k = m)) (hlt : S < m) : Hid (qB l op (k + 1) = (k + 1, m)) := by
  have h1 := h.out; have h2 := hm.out
  refine Lib.hid ?_; simp only [qB, h1, h2, qBetter]; rw [if_pos hlt]
theorem qB_same (l : Bs) (op : Bool) (k K S m : Nat) (h : Hid (qB l op k = (K, S))) (hm : Hid (qLen l op k = m)) (hlt : ¬ S < m) : Hid (qB l op (k + 1) = (K, S)) := by
  have h1 := h.out; have h2 := hm.out
  refine Lib.hid ?_; simp only [qB, h1, h2, qBetter]; rw [if_neg hlt]

set_option maxHeartbeats 4000000 in
theorem longest_any (s : ByteArray) (b i t : Nat) (op : Bool) (hi : i < s.size) (hs : s.size ≤ 20000) (w : World) (hc : Cut w b s i t op) :
    Calls Tryz.prog 159 #[.pointer (some ⟨b, 0, none⟩)] w fun e w' => e = .returned (.tuple #[.int .i64 ((qLongest (qLook s i) op).1 : Nat), .int .i64 ((qLongest (qLook s i) op).2 : Nat)]) ∧ Below w.heap.size w w' := by
  have HC := Lib.hid hc
  clear hc
  have hR0 := Lib.hid (Rules.new w)
  go_enter Tryz.func159, Tryz.ntmps159
  go_wp2
  go_loopw [2, 3, 17] (fun kd sz ix wr => ∃ k K S : Nat, k ≤ 6 ∧ kd = .int .i64 K ∧ sz = .int .i64 S ∧ ix = .int .i64 k ∧ Hid (qB (qLook s i) op k = (K, S)) ∧ Hid (Rules wr w.heap.size) ∧ Hid (Cut wr b s i t op) ∧ Below w.heap.size w wr) (fun _ _ ix _ => 6 - (intOf ix).toNat)
  case atStart =>
    have hb0 := (Below.refl w.heap.size w).alloc (Nat.le_refl _) (.cells #[.int .i64 1, .func (.func 176) #[] #[], .int .i64 2, .func (.func 177) #[] #[], .int .i64 3, .func (.func 178) #[] #[], .int .i64 4, .func (.func 179) #[] #[], .int .i64 5, .func (.func 180) #[] #[], .int .i64 6, .func (.func 181) #[] #[]] 214)
    exact ⟨0, 0, 0, by omega, rfl, rfl, rfl, Lib.hid rfl, hR0, Lib.hid (HC.out.below hb0), hb0⟩
  case round =>
    obtain ⟨k, K, S, hk, rfl, rfl, rfl, hB, hR, hC, hb⟩ := hrel
    clear hR0 HC
    by_cases h6 : k = 6
    · subst h6
      go_wp2
      go_ret2
      exact ⟨by rw [← qB_6, hB.out]; rfl, hb⟩
    · obtain ⟨c0, c1⟩ := hR.out k (by omega)
      have hbA := fun o => hb.alloc hb.size o
      have : k = 0 ∨ k = 1 ∨ k = 2 ∨ k = 3 ∨ k = 4 ∨ k = 5 := by omega
      clear h6
      rcases this with rfl | rfl | rfl | rfl | rfl | rfl
      · simp only [Nat.reduceMul, Nat.reduceAdd, Nat.add_zero] at c0 c1
        go_wp2_with fail
        refine (rule_ex 0 176 (by decide) rfl s b i t op hi hs _ (hC.out.below ((Below.refl _ wr).alloc (Nat.le_refl _) _))).mono ?_
        rintro e w2 ⟨m, rfl, hM, hb2⟩
        have hb3 := bt (hbA _) hb2
        have hb4 := bt ((Below.refl _ wr).alloc (Nat.le_refl _) _) hb2
        have hc0 : w2.cell? ⟨wr.heap.size, 0, none⟩ = some (.int .i64 1) := (hb2.cell (p := ⟨wr.heap.size, 0, none⟩) (by simp)).trans (by simp [go_sem])
        by_cases hlt : S < m
        · go_wp2_with fail
          go_roundw
          case rel => exact ⟨1, 1, m, by omega, rfl, rfl, rfl, qB_up _ _ _ _ _ _ hB hM hlt, Lib.hid (hR.out.below hb4), Lib.hid (hC.out.below hb4), hb3⟩
          case measure => simp [intOf]
        · go_wp2_with fail
          go_roundw
          case rel => exact ⟨1, K, S, by omega, rfl, rfl, rfl, qB_same _ _ _ _ _ _ hB hM hlt, Lib.hid (hR.out.below hb4), Lib.hid (hC.out.below hb4), hb3⟩
          case measure => simp [intOf]
      · simp only [Nat.reduceMul, Nat.reduceAdd] at c0 c1
        go_wp2_with fail
        refine (rule_ex 1 177 (by decide) rfl s b i t op hi hs _ (hC.out.below ((Below.refl _ wr).alloc (Nat.le_refl _) _))).mono ?_
        rintro e w2 ⟨m, rfl, hM, hb2⟩
        have hb3 := bt (hbA _) hb2
        have hb4 := bt ((Below.refl _ wr).alloc (Nat.le_refl _) _) hb2
        have hc0 : w2.cell? ⟨wr.heap.size, 0, none⟩ = some (.int .i64 2) := (hb2.cell (p := ⟨wr.heap.size, 0, none⟩) (by simp)).trans (by simp [go_sem])
        by_cases hlt : S < m
        · go_wp2_with fail
          go_roundw
          case rel => exact ⟨2, 2, m, by omega, rfl, rfl, rfl, qB_up _ _ _ _ _ _ hB hM hlt, Lib.hid (hR.out.below hb4), Lib.hid (hC.out.below hb4), hb3⟩
          case measure => simp [intOf]
        · go_wp2_with fail
          go_roundw
          case rel => exact ⟨2, K, S, by omega, rfl, rfl, rfl, qB_same _ _ _ _ _ _ hB hM hlt, Lib.hid (hR.out.below hb4), Lib.hid (hC.out.below hb4), hb3⟩
          case measure => simp [intOf]
      · simp only [Nat.reduceMul, Nat.reduceAdd] at c0 c1
        go_wp2_with fail
        refine (rule_ex 2 178 (by decide) rfl s b i t op hi hs _ (hC.out.below ((Below.refl _ wr).alloc (Nat.le_refl _) _))).mono ?_
        rintro e w2 ⟨m, rfl, hM, hb2⟩
        have hb3 := bt (hbA _) hb2
        have hb4 := bt ((Below.refl _ wr).alloc (Nat.le_refl _) _) hb2
        have hc0 : w2.cell? ⟨wr.heap.size, 0, none⟩ = some (.int .i64 3) := (hb2.cell (p := ⟨wr.heap.size, 0, none⟩) (by simp)).trans (by simp [go_sem])
        by_cases hlt : S < m
        · go_wp2_with fail
          go_roundw
          case rel => exact ⟨3, 3, m, by omega, rfl, rfl, rfl, qB_up _ _ _ _ _ _ hB hM hlt, Lib.hid (hR.out.below hb4), Lib.hid (hC.out.below hb4), hb3⟩
          case measure => simp [intOf]
        · go_wp2_with fail
          go_roundw
          case rel => exact ⟨3, K, S, by omega, rfl, rfl, rfl, qB_same _ _ _ _ _ _ hB hM hlt, Lib.hid (hR.out.below hb4), Lib.hid (hC.out.below hb4), hb3⟩
          case measure => simp [intOf]
      · simp only [Nat.reduceMul, Nat.reduceAdd] at c0 c1
        go_wp2_with fail
        refine (rule_ex 3 179 (by decide) rfl s b i t op hi hs _ (hC.out.below ((Below.refl _ wr).alloc (Nat.le_refl _) _))).mono ?_
        rintro e w2 ⟨m, rfl, hM, hb2⟩
        have hb3 := bt (hbA _) hb2
        have hb4 := bt ((Below.refl _ wr).alloc (Nat.le_refl _) _) hb2
        have hc0 : w2.cell? ⟨wr.heap.size, 0, none⟩ = some (.int .i64 4) := (hb2.cell (p := ⟨wr.heap.size, 0, none⟩) (by simp)).trans (by simp [go_sem])
        by_cases hlt : S < m
        · go_wp2_with fail
          go_roundw
          case rel => exact ⟨4, 4, m, by omega, rfl, rfl, rfl, qB_up _ _ _ _ _ _ hB hM hlt, Lib.hid (hR.out.below hb4), Lib.hid (hC.out.below hb4), hb3⟩
          case measure => simp [intOf]
        · go_wp2_with fail
          go_roundw
          case rel => exact ⟨4, K, S, by omega, rfl, rfl, rfl, qB_same _ _ _ _ _ _ hB hM hlt, Lib.hid (hR.out.below hb4), Lib.hid (hC.out.below hb4), hb3⟩
          case measure => simp [intOf]
      · simp only [Nat.reduceMul, Nat.reduceAdd] at c0 c1
        go_wp2_with fail
        refine (rule_ex 4 180 (by decide) rfl s b i t op hi hs _ (hC.out.below ((Below.refl _ wr).alloc (Nat.le_refl _) _))).mono ?_
        rintro e w2 ⟨m, rfl, hM, hb2⟩
        have hb3 := bt (hbA _) hb2
        have hb4 := bt ((Below.refl _ wr).alloc (Nat.le_refl _) _) hb2
        have hc0 : w2.cell? ⟨wr.heap.size, 0, none⟩ = some (.int .i64 5) := (hb2.cell (p := ⟨wr.heap.size, 0, none⟩) (by simp)).trans (by simp [go_sem])
        by_cases hlt : S < m
        · go_wp2_with fail
          go_roundw
          case rel => exact ⟨5, 5, m, by omega, rfl, rfl, rfl, qB_up _ _ _ _ _ _ hB hM hlt, Lib.hid (hR.out.below hb4), Lib.hid (hC.out.below hb4), hb3⟩
          case measure => simp [intOf]
        · go_wp2_with fail
          go_roundw
          case rel => exact ⟨5, K, S, by omega, rfl, rfl, rfl, qB_same _ _ _ _ _ _ hB hM hlt, Lib.hid (hR.out.below hb4), Lib.hid (hC.out.below hb4), hb3⟩
          case measure => simp [intOf]
      · simp only [Nat.reduceMul, Nat.reduceAdd] at c0 c1
        go_wp2_with fail
        refine (rule_ex 5 181 (by decide) rfl s b i t op hi hs _ (hC.out.below ((Below.refl _ wr).alloc (Nat.le_refl _) _))).mono ?_
        rintro e w2 ⟨m, rfl, hM, hb2⟩
        have hb3 := bt (hbA _) hb2
        have hb4 := bt ((Below.refl _ wr).alloc (Nat.le_refl _) _) hb2
        have hc0 : w2.cell? ⟨wr.heap.size, 0, none⟩ = some (.int .i64 6) := (hb2.cell (p := ⟨wr.heap.size, 0, none⟩) (by simp)).trans (by simp [go_sem])
        by_cases hlt : S < m
        · go_wp2_with fail
          go_roundw
          case rel => exact ⟨6, 6, m, by omega, rfl, rfl, rfl, qB_up _ _ _ _ _ _ hB hM hlt, Lib.hid (hR.out.below hb4), Lib.hid (hC.out.below hb4), hb3⟩
          case measure => simp [intOf]
        · go_wp2_with fail
          go_roundw
          case rel => exact ⟨6, K, S, by omega, rfl, rfl, rfl, qB_same _ _ _ _ _ _ hB hM hlt, Lib.hid (hR.out.below hb4), Lib.hid (hC.out.below hb4), hb3⟩
          case measure => simp [intOf]
end Go.Proofs.YtopbmndjnjnmcaaGreatDoor

/- (A8) -/
/- Package lex: the library's variables, Atoi, Itoa, isCanonical, refuse. -/
namespace Go.Proofs.YtopbmndjnjnmcaaGreatDoor
open Go.RowKit Lx

/-- What the library's variables hold. -/
structure Env (w : World) : Prop where
  max : ∃ m, w.cell? ⟨0, 0, none⟩ = some (.int .i64 m)
  syn : ∃ te pe, w.cell? ⟨1, 0, none⟩ = some (.iface te pe)
  rng : ∃ te pe, w.cell? ⟨2, 0, none⟩ = some (.iface te pe)
  tab : Lib.TabIs Tryz.prog w "internal/strconv.uint64pow10" .u64 Lib.pow10Tab
  size : 6 ≤ w.heap.size

theorem toList_data (s : ByteArray) : s.toList = s.data.toList := by
  have := Lib.extract_toList s 0 s.size
  rw [List.drop_zero, List.take_of_length_le (by simp)] at this
  simpa using this

theorem pow10_global : Tryz.prog.globalNamed "internal/strconv.uint64pow10" = some 3 := by kernel_rfl

theorem Env.below {w w' : World} (h : Env w) (hb : Below w.heap.size w w') : Env w' := by
  have hs := h.size
  obtain ⟨m, hm⟩ := h.max
  obtain ⟨t2, p2, h2⟩ := h.syn
  obtain ⟨t3, p3, h3⟩ := h.rng
  exact ⟨⟨m, (hb.cell (p := ⟨0, 0, none⟩) (by show 0 < _; omega)).trans hm⟩, ⟨t2, p2, (hb.cell (p := ⟨1, 0, none⟩) (by show 1 < _; omega)).trans h2⟩, ⟨t3, p3, (hb.cell (p := ⟨2, 0, none⟩) (by show 2 < _; omega)).trans h3⟩,
    var?_below hb pow10_global (by omega) h.tab, Nat.le_trans hs hb.size⟩

/-- Whether digits are the text of an integer. -/
def qCanon (l : Bs) : Bool := match Lib.atoiAll l with | .ok n => Lib.itoa n == l | _ => false

theorem atoi_bounds (l : Bs) (v : Int) (h : Lib.atoiAll l = .ok v) : -9223372036854775808 ≤ v ∧ v ≤ 9223372036854775807 := by
  unfold Lib.atoiAll at h
  split at h
  · cases h
  · simp only at h
    split at h
    · cases h
    · cases h
    · split at h
      · cases h
      · split at h
        · cases h
        · rename_i h1 h2
          injection h with h
          split at h <;> omega

/-- **strconv.Atoi**, however it ends. -/
theorem atoi_any (s : ByteArray) (hs : s.size ≤ 20000) (w : World) (he : Env w) :
    Calls Tryz.prog 130 #[.string s] w fun e w' => Below w.heap.size w w' ∧ ((∃ v : Int, Lib.atoiAll s.data.toList = .ok v ∧ e = .returned (.tuple #[.int .i64 v, .nilIface])) ∨ (∃ (v : Int) (p : Addr), (∀ n, Lib.atoiAll s.data.toList ≠ .ok n) ∧ e = .returned (.tuple #[.int .i64 v, .iface 203 (.pointer (some p))]))) := by
  cases h : Lib.atoiAll s.data.toList with
  | ok v =>
    refine (Tryz.strconv_Atoi_ok s (by omega) v h w).mono ?_
    rintro e w' ⟨rfl, hw⟩
    refine ⟨?_, .inl ⟨v, rfl, rfl⟩⟩
    rcases hw with rfl | ⟨t, rfl⟩
    · exact Below.refl _ _
    · exact Lib.bytesWorld_below _ _ _
  | range =>
    obtain ⟨te, pe, hv⟩ := he.rng
    refine (Tryz.strconv_Atoi_range s (by omega) h _ w hv (.inr ⟨te, pe, rfl⟩)).mono ?_
    rintro e w' ⟨N, rfl, _, _, hb⟩
    exact ⟨hb, .inr ⟨_, _, fun n hn => (by cases hn), rfl⟩⟩
  | _ =>
    obtain ⟨te, pe, hv⟩ := he.syn
    refine (Any.strconv_Atoi_syntax Tryz.laysC172 s (by omega) h _ w hv (.inr ⟨te, pe, rfl⟩)).mono ?_
    rintro e w' ⟨N, rfl, _, _, hb⟩
    exact ⟨hb, .inr ⟨_, _, fun n hn => (by cases hn), rfl⟩⟩

theorem below_grow (w : World) (n : Nat) (os : Array Obj) : Below w.heap.size w (Go.Sort.grow (w.drewN n) os) :=
  ⟨rfl, rfl, rfl, by show w.heap.size ≤ (w.heap ++ os).size; simp, fun k hk => by show (w.heap ++ os)[k]? = w.heap[k]?; exact Array.getElem?_append_left hk⟩

/-- **strconv.Itoa** -/
theorem itoa_any (n : Int) (h0 : -9223372036854775808 ≤ n) (h1 : n ≤ 9223372036854775807) (w : World) (he : Env w) :
    Calls Tryz.prog 187 #[.int .i64 n] w fun e w' => e = .returned (.string ⟨(Lib.itoa n).toArray⟩) ∧ Below w.heap.size w w' := by
  refine (Tryz.strconv_Itoa n h0 h1 w he.tab).mono ?_
  rintro e w' ⟨rfl, k, os, rfl⟩
  exact ⟨rfl, below_grow w k os⟩

set_option maxHeartbeats 1000000 in
theorem isCanonical_any (s : ByteArray) (hs : s.size ≤ 20000) (w : World) (he : Env w) :
    Calls Tryz.prog 183 #[.string s] w fun e w' => e = .returned (.bool (qCanon s.data.toList)) ∧ Below w.heap.size w w' := by
  have HE := Lib.hid he
  clear he
  go_enter Tryz.func183, Tryz.ntmps183
  go_wp2_with fail
  refine (atoi_any s hs _ HE.out).mono ?_
  rintro e w1 ⟨hb, ⟨v, hv, rfl⟩ | ⟨v, p, hv, rfl⟩⟩
  · have HV := Lib.hid hv
    obtain ⟨b0, b1⟩ := atoi_bounds _ v hv
    clear hv
    go_wp2_with fail
    refine (itoa_any v b0 b1 _ (HE.out.below hb)).mono ?_
    rintro e w2 ⟨rfl, hb2⟩
    go_wp2_with fail
    go_ret
    refine ⟨congrArg (fun x => Ending.returned (.bool x)) ?_, bt hb hb2⟩
    unfold qCanon; rw [HV.out, toList_data]
  · have hv' : Hid (qCanon s.data.toList = false) := by
      refine Lib.hid ?_; unfold qCanon; split
      · rename_i n hn; exact (hv n hn).elim
      · rfl
    clear hv
    go_wp2_with fail
    go_ret
    exact ⟨by rw [hv'.out]; rfl, hb⟩

set_option maxHeartbeats 1000000 in
theorem refuse_any (s : ByteArray) (b i t : Nat) (op : Bool) (er : Int) (w : World) (hc : Cut w b s i t op) :
    Calls Tryz.prog 140 #[.pointer (some ⟨b, 0, none⟩), .int .i64 er] w fun e w' => e = .panicked [{ v := .iface 161 (.agg #[.int .i64 er, .int .i64 i]), recovered := false }] ∧ w' = w := by
  obtain ⟨h0, h1, _, h3⟩ := hc
  go_enter Tryz.func140, Tryz.ntmps140
  go_wp2
  exact ⟨rfl, rfl, rfl⟩
end Go.Proofs.YtopbmndjnjnmcaaGreatDoor

/- (A9) -/
/- Package lex: check. -/
namespace Go.Proofs.YtopbmndjnjnmcaaGreatDoor
open Go.RowKit Lx

theorem in_6 (s : ByteArray) (b i n t : Nat) (op : Bool) (hi : i ≤ s.size) (hn : n ≤ 100) (hs : s.size ≤ 20000) (w : World) (hc : Cut w b s i t op) :
    Calls Tryz.prog 182 #[.pointer (some ⟨b, 0, none⟩), .int .i64 6, .int .i64 n] w fun e w' => e = .returned (.bool (qAt 6 s.data.toList (i + n))) ∧ Below w.heap.size w w' := in_any s b i 6 n (by decide) hi hn hs w hc.1 hc.2.1
theorem in_2 (s : ByteArray) (b i n t : Nat) (op : Bool) (hi : i ≤ s.size) (hn : n ≤ 100) (hs : s.size ≤ 20000) (w : World) (hc : Cut w b s i t op) :
    Calls Tryz.prog 182 #[.pointer (some ⟨b, 0, none⟩), .int .i64 2, .int .i64 n] w fun e w' => e = .returned (.bool (qAt 2 s.data.toList (i + n))) ∧ Below w.heap.size w w' := in_any s b i 2 n (by decide) hi hn hs w hc.1 hc.2.1

theorem rest_r (s : ByteArray) (b i t : Nat) (op : Bool) (hi : i ≤ s.size) (w : World) (hc : Cut w b s i t op) :
    Calls Tryz.prog 158 #[.pointer (some ⟨b, 0, none⟩)] w fun e w' => ∃ (r : ByteArray) (n : Nat), e = .returned (.string r) ∧ w' = w.drewN n ∧ Hid (r.data.toList = s.data.toList.drop i) ∧ Hid (r.size = s.size - i) :=
  (rest_any s b i hi w hc.1 hc.2.1).mono fun _ _ ⟨he, n, hw⟩ => ⟨_, n, he, hw, Lib.hid (ext_list s i), Lib.hid (by simp)⟩

/-- What check refuses; 0: nothing. -/
def qCheck (l : Bs) (i kind n : Nat) : Nat :=
  if (kind == 2 && (qAt 6 l (i + n) || !qCanon ((l.drop i).take n))) = true then 11
  else if (l[i]? == some 35 && (n == 0 || qAt 2 l (i + n))) = true then 12
  else if 40 < n then 2
  else if n = 0 then 10
  else 0

/-- How a call of check or of refuse ends. -/
def refusal (er i : Nat) : Ending := .panicked [{ v := .iface 161 (.agg #[.int .i64 er, .int .i64 i]), recovered := false }]

theorem qCheck_11 (l : Bs) (i kind n : Nat) (h : (kind == 2 && (qAt 6 l (i + n) || !qCanon ((l.drop i).take n))) = true) : qCheck l i kind n = 11 := if_pos h
theorem qCheck_x (l : Bs) (i kind n : Nat) (h : (kind == 2 && (qAt 6 l (i + n) || !qCanon ((l.drop i).take n))) = false) :
    qCheck l i kind n = if (l[i]? == some 35 && (n == 0 || qAt 2 l (i + n))) = true then 12 else if 40 < n then 2 else if n = 0 then 10 else 0 := if_neg (by simp [h])

/-- What the end of check says. -/
def CheckEnd (l : Bs) (i kind n : Nat) (w : World) (e : Ending) (w' : World) : Prop :=
  e = (if qCheck l i kind n = 0 then .returned (.tuple #[]) else refusal (qCheck l i kind n) i) ∧ Below w.heap.size w w'
theorem CheckEnd.bad {l : Bs} {i kind n er : Nat} {w w' : World} (h : qCheck l i kind n = er) (h0 : er ≠ 0) (hb : Below w.heap.size w w') : CheckEnd l i kind n w (refusal er i) w' := by
  subst h; exact ⟨by rw [if_neg h0], hb⟩
theorem CheckEnd.ok {l : Bs} {i kind n : Nat} {w w' : World} (h : qCheck l i kind n = 0) (hb : Below w.heap.size w w') : CheckEnd l i kind n w (.returned (.tuple #[])) w' :=
  ⟨by rw [if_pos h], hb⟩

theorem at_byte (s : ByteArray) (i : Nat) (hi : i < s.size) (c : UInt8) : (s.data.toList[i]? == some c) = ((s[i].toNat : Int) == (c.toNat : Int)) := by
  have h4 : s.data.toList[i]? = some s[i] := by rw [List.getElem?_eq_getElem (by simpa using hi)]; rfl
  rw [h4, Bool.eq_iff_iff, beq_iff_eq, beq_iff_eq, Option.some.injEq]
  exact ⟨fun e => by rw [e], fun e => UInt8.toNat_inj.1 (by omega)⟩

theorem in_2d (s : ByteArray) (b i n t : Nat) (op : Bool) (hi : i ≤ s.size) (hn : n ≤ 100) (hs : s.size ≤ 20000) (w : World) (hc : Cut w b s i t op) :
    Calls Tryz.prog 182 #[.pointer (some ⟨b, 0, none⟩), .int .i64 2, .int .i64 n] w.drew fun e w' => e = .returned (.bool (qAt 2 s.data.toList (i + n))) ∧ Below w.heap.size w w' :=
  (in_2 s b i n t op hi hn hs w.drew hc).mono fun _ _ ⟨he, hb⟩ => ⟨he, bt (bl w 1) hb⟩

/-- The rules behind the first one. -/
def qC (l : Bs) (i n : Nat) : Nat := if (l[i]? == some 35 && (n == 0 || qAt 2 l (i + n))) = true then 12 else if 40 < n then 2 else if n = 0 then 10 else 0
theorem qC_a (l : Bs) (i n : Nat) (h : (l[i]? == some 35) = false) : qC l i n = if 40 < n then 2 else if n = 0 then 10 else 0 := if_neg (by rw [h]; simp)
theorem qC_b (l : Bs) (i n : Nat) (h0 : n ≠ 0) (h : qAt 2 l (i + n) = false) : qC l i n = if 40 < n then 2 else if n = 0 then 10 else 0 := if_neg (by rw [h]; simp [h0])
theorem qC_d (l : Bs) (i n : Nat) (h : (l[i]? == some 35) = true) (h2 : qAt 2 l (i + n) = true) : qC l i n = 12 := if_pos (by rw [h, h2]; simp)
theorem qC_e (l : Bs) (i n : Nat) (h : (l[i]? == some 35) = true) (h2 : n = 0) : qC l i n = 12 := if_pos (by rw [h]; simp [h2])

set_option maxHeartbeats 4000000 in
theorem check_any (s : ByteArray) (b i t n : Nat) (kind : Nat) (op : Bool) (hi : i < s.size) (hn : n ≤ 100) (hin : i + n ≤ s.size) (hs : s.size ≤ 20000) (w : World) (hc : Cut w b s i t op) (he : Env w) :
    Calls Tryz.prog 160 #[.pointer (some ⟨b, 0, none⟩), .int .i64 kind, .int .i64 n] w fun e w' => CheckEnd s.data.toList i kind n w e w' := by
  have HC := Lib.hid hc
  have HE := Lib.hid he
  have hi0 : (0 : Int) ≤ (i : Int) := by omega
  have hi1 : (i : Int) < (s.size : Int) := by omega
  have H35 := Lib.hid (at_byte s i hi 35)
  clear hc he
  go_enter Tryz.func160, Tryz.ntmps160
  cases h2 : ((kind : Int) == 2)
  · have hk2 : (kind == 2) = false := by simp at h2 ⊢; omega
    have hx : Hid (qCheck s.data.toList i kind n = qC s.data.toList i n) := Lib.hid (qCheck_x s.data.toList i kind n (by rw [hk2]; rfl))
    have HCw := HC
    have hbw := Below.refl w.heap.size w
    obtain ⟨c0, c1, _, _⟩ := HCw.out
    have lb := HCw.out.lt
    cases h35 : ((s[i].toNat : Int) == 35)
    · have hx2 := Lib.hid (hx.out.trans (qC_a _ i n (by rw [H35.out]; exact h35)))
      go_wp2_with fail
      go_quiet (fail)
      by_cases h40 : 40 < n
      · have hx3 := Lib.hid (hx2.out.trans (if_pos h40))
        go_wp2_with fail
        refine (refuse_any s b i t op _ _ (HCw.out.below (bl _ _))).mono ?_
        rintro e w' ⟨rfl, rfl⟩
        go_wp2_with fail
        exact ⟨rfl, .bad hx3.out (by decide) (bt hbw (bl _ _))⟩
      · have hx3 := Lib.hid (hx2.out.trans (if_neg h40))
        cases hn0 : ((n : Int) == 0)
        · have hx4 := Lib.hid (hx3.out.trans (if_neg (by simp at hn0; omega)))
          go_wp2_with fail
          go_end0
          exact .ok hx4.out (bt hbw (bl _ _))
        · have hx4 := Lib.hid (hx3.out.trans (if_pos (by simp at hn0; omega)))
          go_wp2_with fail
          refine (refuse_any s b i t op _ _ (HCw.out.below (bl _ _))).mono ?_
          rintro e w' ⟨rfl, rfl⟩
          go_wp2_with fail
          exact ⟨rfl, .bad hx4.out (by decide) (bt hbw (bl _ _))⟩
    · cases hn0 : ((n : Int) == 0)
      · cases hq2 : qAt 2 s.data.toList (i + n)
        · have hx2 := Lib.hid (hx.out.trans (qC_b _ i n (by simp at hn0; omega) hq2))
          go_wp2_with fail
          go_region_held3 (fun w' => w'.cell? ⟨b, 0, none⟩ = some (.string s) ∧ w'.cell? ⟨b, 1, none⟩ = some (.int .i64 i)) (first | go_keep) (first | (go_at_call 182; refine (in_2d s b i n t op (by omega) hn hs _ HCw.out).mono ?_; rintro e w9 ⟨rfl, hb9⟩; obtain ⟨k0, k1, _, _⟩ := HCw.out.below hb9))
          have hb9 := bt hbw hb9
          by_cases h40 : 40 < n
          · have hx3 := Lib.hid (hx2.out.trans (if_pos h40))
            go_wp2_with fail
            refine (refuse_any s b i t op _ _ (HCw.out.below (by assumption))).mono ?_
            rintro e w' ⟨rfl, rfl⟩
            go_wp2_with fail
            exact ⟨rfl, .bad hx3.out (by decide) hb9⟩
          · have hx3 := Lib.hid (hx2.out.trans (if_neg h40))
            have hx4 := Lib.hid (hx3.out.trans (if_neg (by simp at hn0; omega)))
            go_wp2_with fail
            go_end0
            exact .ok hx4.out hb9
        · have hx2 := Lib.hid (hx.out.trans (qC_d _ i n (by rw [H35.out]; exact h35) hq2))
          go_wp2_with fail
          go_region_held3 (fun w' => w'.cell? ⟨b, 0, none⟩ = some (.string s) ∧ w'.cell? ⟨b, 1, none⟩ = some (.int .i64 i)) (first | go_keep) (first | (go_at_call 182; refine (in_2d s b i n t op (by omega) hn hs _ HCw.out).mono ?_; rintro e w9 ⟨rfl, hb9⟩; obtain ⟨k0, k1, _, _⟩ := HCw.out.below hb9))
          go_wp2_with fail
          refine (refuse_any s b i t op _ _ (HCw.out.below (by assumption))).mono ?_
          rintro e w' ⟨rfl, rfl⟩
          go_wp2_with fail
          exact ⟨rfl, .bad hx2.out (by decide) (bt hbw (by assumption))⟩
      · have hx2 := Lib.hid (hx.out.trans (qC_e _ i n (by rw [H35.out]; exact h35) (by simp at hn0; omega)))
        go_wp2_with fail
        go_quiet (fail)
        go_wp2_with fail
        refine (refuse_any s b i t op _ _ (HCw.out.below (bl _ _))).mono ?_
        rintro e w' ⟨rfl, rfl⟩
        go_wp2_with fail
        exact ⟨rfl, .bad hx2.out (by decide) (bt hbw (bl _ _))⟩
  · have h2' : (kind == 2) = true := by simp at h2 ⊢; omega
    cases h6 : qAt 6 s.data.toList (i + n)
    · go_wp2_with fail
      refine (in_6 s b i n t op (by omega) hn hs _ HC.out).mono ?_
      rintro e w1 ⟨rfl, hb1⟩
      have HC1 := Lib.hid (HC.out.below hb1)
      rw [h6]
      go_wp2_with fail
      refine (rest_r s b i t op (by omega) _ HC1.out).mono ?_
      rintro e w' ⟨r, q, rfl, rfl, hR, hz⟩
      have hnr : n ≤ r.size := by rw [hz.out]; omega
      have hE : Hid ((r.extract 0 n).data.toList = (s.data.toList.drop i).take n) := Lib.hid (by rw [Lib.extract_data, hR.out]; simp)
      go_wp2_with fail
      refine (isCanonical_any (r.extract 0 n) (by simp; have := hz.out; omega) _ ((HE.out.below hb1).below (bl _ _))).mono ?_
      rintro e w2 ⟨rfl, hb2⟩
      rw [hE.out]
      have HCw := Lib.hid (HC1.out.below (bt (bl _ _) hb2))
      have hbw := bt hb1 (bt (bl _ _) hb2)
      cases hq : qCanon ((s.data.toList.drop i).take n)
      · have hx := Lib.hid (qCheck_11 s.data.toList i kind n (by rw [h2', hq]; simp))
        go_wp2_with fail
        refine (refuse_any s b i t op _ _ HCw.out).mono ?_
        rintro e w' ⟨rfl, rfl⟩
        go_wp2_with fail
        exact ⟨rfl, .bad hx.out (by decide) hbw⟩
      · have hx : Hid (qCheck s.data.toList i kind n = qC s.data.toList i n) := Lib.hid (qCheck_x s.data.toList i kind n (by rw [h6, hq]; simp))
        obtain ⟨c0, c1, _, _⟩ := HCw.out
        have lb := HCw.out.lt
        cases h35 : ((s[i].toNat : Int) == 35)
        · have hx2 := Lib.hid (hx.out.trans (qC_a _ i n (by rw [H35.out]; exact h35)))
          go_wp2_with fail
          go_quiet (fail)
          by_cases h40 : 40 < n
          · have hx3 := Lib.hid (hx2.out.trans (if_pos h40))
            go_wp2_with fail
            refine (refuse_any s b i t op _ _ (HCw.out.below (bl _ _))).mono ?_
            rintro e w' ⟨rfl, rfl⟩
            go_wp2_with fail
            exact ⟨rfl, .bad hx3.out (by decide) (bt hbw (bl _ _))⟩
          · have hx3 := Lib.hid (hx2.out.trans (if_neg h40))
            cases hn0 : ((n : Int) == 0)
            · have hx4 := Lib.hid (hx3.out.trans (if_neg (by simp at hn0; omega)))
              go_wp2_with fail
              go_end0
              exact .ok hx4.out (bt hbw (bl _ _))
            · have hx4 := Lib.hid (hx3.out.trans (if_pos (by simp at hn0; omega)))
              go_wp2_with fail
              refine (refuse_any s b i t op _ _ (HCw.out.below (bl _ _))).mono ?_
              rintro e w' ⟨rfl, rfl⟩
              go_wp2_with fail
              exact ⟨rfl, .bad hx4.out (by decide) (bt hbw (bl _ _))⟩
        · cases hn0 : ((n : Int) == 0)
          · cases hq2 : qAt 2 s.data.toList (i + n)
            · have hx2 := Lib.hid (hx.out.trans (qC_b _ i n (by simp at hn0; omega) hq2))
              go_wp2_with fail
              go_region_held3 (fun w' => w'.cell? ⟨b, 0, none⟩ = some (.string s) ∧ w'.cell? ⟨b, 1, none⟩ = some (.int .i64 i)) (first | go_keep) (first | (go_at_call 182; refine (in_2d s b i n t op (by omega) hn hs _ HCw.out).mono ?_; rintro e w9 ⟨rfl, hb9⟩; obtain ⟨k0, k1, _, _⟩ := HCw.out.below hb9))
              have hb9 := bt hbw hb9
              by_cases h40 : 40 < n
              · have hx3 := Lib.hid (hx2.out.trans (if_pos h40))
                go_wp2_with fail
                refine (refuse_any s b i t op _ _ (HCw.out.below (by assumption))).mono ?_
                rintro e w' ⟨rfl, rfl⟩
                go_wp2_with fail
                exact ⟨rfl, .bad hx3.out (by decide) hb9⟩
              · have hx3 := Lib.hid (hx2.out.trans (if_neg h40))
                have hx4 := Lib.hid (hx3.out.trans (if_neg (by simp at hn0; omega)))
                go_wp2_with fail
                go_end0
                exact .ok hx4.out hb9
            · have hx2 := Lib.hid (hx.out.trans (qC_d _ i n (by rw [H35.out]; exact h35) hq2))
              go_wp2_with fail
              go_region_held3 (fun w' => w'.cell? ⟨b, 0, none⟩ = some (.string s) ∧ w'.cell? ⟨b, 1, none⟩ = some (.int .i64 i)) (first | go_keep) (first | (go_at_call 182; refine (in_2d s b i n t op (by omega) hn hs _ HCw.out).mono ?_; rintro e w9 ⟨rfl, hb9⟩; obtain ⟨k0, k1, _, _⟩ := HCw.out.below hb9))
              go_wp2_with fail
              refine (refuse_any s b i t op _ _ (HCw.out.below (by assumption))).mono ?_
              rintro e w' ⟨rfl, rfl⟩
              go_wp2_with fail
              exact ⟨rfl, .bad hx2.out (by decide) (bt hbw (by assumption))⟩
          · have hx2 := Lib.hid (hx.out.trans (qC_e _ i n (by rw [H35.out]; exact h35) (by simp at hn0; omega)))
            go_wp2_with fail
            go_quiet (fail)
            go_wp2_with fail
            refine (refuse_any s b i t op _ _ (HCw.out.below (bl _ _))).mono ?_
            rintro e w' ⟨rfl, rfl⟩
            go_wp2_with fail
            exact ⟨rfl, .bad hx2.out (by decide) (bt hbw (bl _ _))⟩
    · have hx := Lib.hid (qCheck_11 s.data.toList i kind n (by rw [h2', h6]; simp))
      go_wp2_with fail
      refine (in_6 s b i n t op (by omega) hn hs _ HC.out).mono ?_
      rintro e w1 ⟨rfl, hb1⟩
      rw [h6]
      go_wp2_with fail
      refine (refuse_any s b i t op _ _ (HC.out.below hb1)).mono ?_
      rintro e w' ⟨rfl, rfl⟩
      go_wp2_with fail
      exact ⟨rfl, .bad hx.out (by decide) hb1⟩
end Go.Proofs.YtopbmndjnjnmcaaGreatDoor

/- (A10) -/
/- Package lex: isOperand and take. -/
namespace Go.Proofs.YtopbmndjnjnmcaaGreatDoor
open Go.RowKit Lx

/-- Whether a token makes a - behind it a sign. -/
def qOper (l : Bs) (i kind : Nat) : Bool := kind == 1 || kind == 2 || kind == 4 || (kind == 5 && (l[i]? == some 41 || l[i]? == some 93))

set_option maxHeartbeats 2000000 in
theorem isOperand_any (s : ByteArray) (b i t : Nat) (kind : Nat) (op : Bool) (hi : i < s.size) (w : World) (hc : Cut w b s i t op) :
    Calls Tryz.prog 161 #[.pointer (some ⟨b, 0, none⟩), .int .i64 kind] w fun e w' => e = .returned (.bool (qOper s.data.toList i kind)) ∧ Below w.heap.size w w' := by
  obtain ⟨h0, h1, _, _⟩ := hc
  have hi0 : (0 : Int) ≤ (i : Int) := by omega
  have hi1 : (i : Int) < (s.size : Int) := by omega
  have H41 := Lib.hid (at_byte s i hi 41)
  have H93 := Lib.hid (at_byte s i hi 93)
  by_cases k1 : kind = 1
  · subst k1
    go_enter Tryz.func161, Tryz.ntmps161
    go_wp2
    go_ret
    exact ⟨rfl, Below.refl _ _⟩
  by_cases k2 : kind = 2
  · subst k2
    go_enter Tryz.func161, Tryz.ntmps161
    go_wp2
    go_ret
    exact ⟨rfl, Below.refl _ _⟩
  by_cases k4 : kind = 4
  · subst k4
    go_enter Tryz.func161, Tryz.ntmps161
    go_wp2
    go_ret
    exact ⟨rfl, Below.refl _ _⟩
  by_cases k5 : kind = 5
  · subst k5
    cases h41 : ((s[i].toNat : Int) == 41)
    · cases h93 : ((s[i].toNat : Int) == 93)
      all_goals
        have hv : Hid (qOper s.data.toList i 5 = ((s[i].toNat : Int) == 93)) := Lib.hid (by unfold qOper; rw [H41.out, H93.out]; show (false || (true && ((((s[i].toNat : Int) == 41)) || ((s[i].toNat : Int) == 93)))) = _; rw [h41]; simp)
        go_enter Tryz.func161, Tryz.ntmps161
        go_wp2
        go_quiet (fail)
        go_wp2
        go_ret
        exact ⟨by rw [hv.out, h93]; rfl, bl _ _⟩
    · have hv : Hid (qOper s.data.toList i 5 = true) := Lib.hid (by unfold qOper; rw [H41.out, H93.out]; show (false || (true && ((((s[i].toNat : Int) == 41)) || ((s[i].toNat : Int) == 93)))) = _; rw [h41]; simp)
      go_enter Tryz.func161, Tryz.ntmps161
      go_wp2
      go_quiet (fail)
      go_wp2
      go_ret
      exact ⟨by rw [hv.out]; rfl, bl _ _⟩
  · have hv : Hid (qOper s.data.toList i kind = false) := Lib.hid (by unfold qOper; simp [k1, k2, k4, k5])
    have a1 : ((kind : Int) == 1) = false := by simp; omega
    have a2 : ((kind : Int) == 2) = false := by simp; omega
    have a4 : ((kind : Int) == 4) = false := by simp; omega
    have a5 : ((kind : Int) == 5) = false := by simp; omega
    clear k1 k2 k4 k5
    go_enter Tryz.func161, Tryz.ntmps161
    go_wp2
    go_ret
    exact ⟨by rw [hv.out]; rfl, Below.refl _ _⟩

/-- The block of a cutter. -/
def CutB (w : World) (b : Nat) (s : ByteArray) (i t : Nat) (op : Bool) : Prop :=
  w.heap[b]? = some (.cells #[.string s, .int .i64 (i : Int), .int .i64 (t : Int), .bool op] 179 (0, 0))
theorem CutB.lt {w : World} {b : Nat} {s : ByteArray} {i t : Nat} {op : Bool} (h : CutB w b s i t op) : b < w.heap.size := (Array.getElem?_eq_some_iff.1 h).1
theorem CutB.cut {w : World} {b : Nat} {s : ByteArray} {i t : Nat} {op : Bool} (h : CutB w b s i t op) : Cut w b s i t op := by
  have h' : w.heap[b]? = _ := h
  exact ⟨by simp [World.cell?, h'], by simp [World.cell?, h'], by simp [World.cell?, h'], by simp [World.cell?, h']⟩
theorem CutB.frozen {w : World} {b : Nat} {s : ByteArray} {i t : Nat} {op : Bool} (h : CutB w b s i t op) (j : Nat) : w.frozen? ⟨b, j, none⟩ = false := by
  have h' : w.heap[b]? = _ := h
  simp [World.frozen?, h']
theorem CutB.kept {w w' : World} {b : Nat} {s : ByteArray} {i t : Nat} {op : Bool} {row : Option Nat} (h : CutB w b s i t op) (hg : w.grownBy w' row) (hne : some b ≠ row) : CutB w' b s i t op := (hg.block b h.lt hne).trans h
theorem CutB.below {w w' : World} {b : Nat} {s : ByteArray} {i t : Nat} {op : Bool} (h : CutB w b s i t op) (hb : Below w.heap.size w w') : CutB w' b s i t op := (hb.block b h.lt).trans h

theorem heap_set (w : World) (b j : Nat) (cs : Array Value) (t : TypeId) (fr : Nat × Nat) (v : Value) (h : w.heap[b]? = some (.cells cs t fr)) :
    (w.setCell ⟨b, j, none⟩ v).heap[b]? = some (.cells (cs.setIfInBounds j v) t fr) := by
  obtain ⟨hlt, hk⟩ := Array.getElem?_eq_some_iff.1 h
  show (w.heap.modify b _)[b]? = _
  rw [Array.getElem?_eq_getElem (by rw [Array.size_modify]; exact hlt), Array.getElem_modify_self, hk]
  rfl
theorem CutB.set1 {w : World} {b : Nat} {s : ByteArray} {i t : Nat} {op : Bool} (h : CutB w b s i t op) (i' : Nat) : CutB (w.setCell ⟨b, 1, none⟩ (.int .i64 (i' : Int))) b s i' t op := heap_set w b 1 _ _ _ _ h
theorem CutB.set2 {w : World} {b : Nat} {s : ByteArray} {i t : Nat} {op : Bool} (h : CutB w b s i t op) (t' : Nat) : CutB (w.setCell ⟨b, 2, none⟩ (.int .i64 (t' : Int))) b s i t' op := heap_set w b 2 _ _ _ _ h
theorem CutB.set3 {w : World} {b : Nat} {s : ByteArray} {i t : Nat} {op : Bool} (h : CutB w b s i t op) (op' : Bool) : CutB (w.setCell ⟨b, 3, none⟩ (.bool op')) b s i t op' := heap_set w b 3 _ _ _ _ h
theorem grown_set (W : World) (b j : Nat) (v : Value) : W.grownBy (W.setCell ⟨b, j, none⟩ v) (some b) :=
  ⟨rfl, rfl, rfl, (KeepsWalks.setCell W _ v).size, fun k _ hk => Below.heap_setCell _ _ _ k (fun e => hk (by rw [e]))⟩
theorem grown_bl {w w' : World} (h : Below w.heap.size w w') (row : Option Nat) : w.grownBy w' row := ⟨h.os, h.tape, h.output, h.size, fun k hk _ => h.block k hk⟩

theorem CutB.up {w : World} {b : Nat} {s : ByteArray} {i t : Nat} {op : Bool} (h : CutB w b s i t op) : CutB (w.setCell ⟨b, 2, none⟩ (.int .i64 ((t : Int) + 1))) b s i (t + 1) op := heap_set w b 2 _ _ _ _ h
theorem CutB.on {w : World} {b : Nat} {s : ByteArray} {i t : Nat} {op : Bool} (h : CutB w b s i t op) (n : Nat) : CutB (w.setCell ⟨b, 1, none⟩ (.int .i64 ((i : Int) + (n : Int)))) b s (i + n) t op := heap_set w b 1 _ _ _ _ h
theorem CutB.alloc {w : World} {b : Nat} {s : ByteArray} {i t : Nat} {op : Bool} (h : CutB w b s i t op) (o : Obj) : CutB (w.alloc o) b s i t op := h.kept (World.grownBy_alloc w o none) (by simp)

set_option maxHeartbeats 2000000 in
theorem take_ok (s : ByteArray) (b i t n : Nat) (kind : Nat) (op : Bool) (hi : i < s.size) (hn : i + n ≤ s.size) (hs : s.size ≤ 20000) (ht : t < 6000) (hk : kind < 7) (w : World) (hc : CutB w b s i t op) :
    Calls Tryz.prog 143 #[.pointer (some ⟨b, 0, none⟩), .agg #[.int .i64 kind, .int .i64 i, .int .i64 n]] w fun e w' => e = .returned (.tuple #[]) ∧ CutB w' b s (i + n) (t + 1) (qOper s.data.toList i kind) ∧ w.grownBy w' (some b) := by
  have HB := Lib.hid hc
  obtain ⟨h0, h1, h2, h3⟩ := hc.cut
  have f1 := hc.frozen 1
  have f2 := hc.frozen 2
  have f3 := hc.frozen 3
  have lb := hc.lt
  have ht' : ((t : Int) == 6000) = false := by simp; omega
  clear hc
  go_enter Tryz.func143, Tryz.ntmps143
  go_wp2_with fail
  refine (isOperand_any s b i (t + 1) kind op hi _ ((HB.out.up.alloc _).cut)).mono ?_
  rintro e w2 ⟨rfl, hb⟩
  have HB2 := Lib.hid ((HB.out.up.alloc _).below hb)
  have HG2 := Lib.hid (((grown_set w b 2 _).trans (World.grownBy_alloc _ _ _)).trans (grown_bl hb (some b)))
  have lb2 := HB2.out.lt
  have hp : w2.cell? ⟨w.heap.size, 2, none⟩ = some (.int .i64 n) := (hb.cell (p := ⟨w.heap.size, 2, none⟩) (by simp [World.setCell])).trans (by simp [go_sem])
  have lp := World.block_lt_of_cell? w2 _ hp
  obtain ⟨g0, g1, g2, g3⟩ := HB2.out.cut
  have q1 := HB2.out.frozen 1
  have q3 := HB2.out.frozen 3
  have hsum : IntKind.i64.wrap ((i : Int) + (n : Int)) = (i : Int) + (n : Int) := IntWalk.i64_in _ (by omega)
  have hne : ¬ w.heap.size = b := by omega
  clear hb h0 h1 h2 h3 f1 f2 f3
  go_wp2_with fail
  go_region
  go_wp2
  go_end0
  exact ⟨rfl, ((HB2.out.set3 _).on n), ((HG2.out.trans (grown_set w2 b 3 _)).trans (grown_set _ b 1 _)).trans (grown_bl (bl _ 1) _)⟩

set_option maxHeartbeats 2000000 in
theorem take_skip (s : ByteArray) (b i t n : Nat) (kind : Nat) (op : Bool) (hn : i + n ≤ s.size) (hs : s.size ≤ 20000) (hk : 7 ≤ kind) (w : World) (hc : CutB w b s i t op) :
    Calls Tryz.prog 143 #[.pointer (some ⟨b, 0, none⟩), .agg #[.int .i64 kind, .int .i64 i, .int .i64 n]] w fun e w' => e = .returned (.tuple #[]) ∧ CutB w' b s (i + n) t op ∧ w.grownBy w' (some b) := by
  have HB := Lib.hid hc
  obtain ⟨h0, h1, h2, h3⟩ := hc.cut
  have f1 := hc.frozen 1
  have lb := hc.lt
  have hsum : IntKind.i64.wrap ((i : Int) + (n : Int)) = (i : Int) + (n : Int) := IntWalk.i64_in _ (by omega)
  have hne : ¬ w.heap.size = b := by omega
  clear hc hn hs
  go_enter Tryz.func143, Tryz.ntmps143
  go_wp2_with fail
  go_region
  go_wp2
  go_end0
  exact ⟨rfl, (HB.out.on n).alloc _, ((grown_set w b 1 _).trans (World.grownBy_alloc _ _ _)).trans (grown_bl (bl _ 1) _)⟩

set_option maxHeartbeats 2000000 in
theorem take_bad (s : ByteArray) (b i n : Nat) (kind : Nat) (op : Bool) (hk : kind < 7) (w : World) (hc : CutB w b s i 6000 op) :
    Calls Tryz.prog 143 #[.pointer (some ⟨b, 0, none⟩), .agg #[.int .i64 kind, .int .i64 i, .int .i64 n]] w fun e w' => e = refusal 2 i ∧ Below w.heap.size w w' := by
  have HB := Lib.hid hc
  obtain ⟨h0, h1, h2, h3⟩ := hc.cut
  have lb := hc.lt
  clear hc
  go_enter Tryz.func143, Tryz.ntmps143
  go_wp2_with fail
  refine (refuse_any s b i 6000 op _ _ (HB.out.cut.below ((Below.refl _ _).alloc (Nat.le_refl _) _))).mono ?_
  rintro e w' ⟨rfl, rfl⟩
  go_wp2_with fail
  exact ⟨rfl, rfl, (Below.refl _ _).alloc (Nat.le_refl _) _⟩
end Go.Proofs.YtopbmndjnjnmcaaGreatDoor

/- (A11) -/
/- Package lex: nested comments. -/
namespace Go.Proofs.YtopbmndjnjnmcaaGreatDoor
open Go.RowKit Lx

/-- How a comment of the second sort ends: an error, and how much it takes. -/
def qNestGo : Bs → Nat → Nat → Nat × Nat
  | a :: b :: t, i, op =>
    if ([a, b] == [47, 42]) = true then (if op = 100 then (6, 0) else qNestGo t (i + 2) (op + 1))
    else if ([a, b] == [42, 47]) = true then (if op = 1 then (0, i + 2) else qNestGo t (i + 2) (op - 1))
    else qNestGo (b :: t) (i + 1) op
  | [_], _, _ => (13, 0)
  | [], _, _ => (13, 0)

def qNest (l : Bs) : Nat × Nat := qNestGo l 0 0

theorem drop2 (r : ByteArray) (i : Nat) (h : i + 2 ≤ r.size) : r.data.toList.drop i = r[i] :: r[i + 1] :: r.data.toList.drop (i + 2) := by
  rw [List.drop_eq_getElem_cons (by simp; omega), List.drop_eq_getElem_cons (i := i + 1) (by simp; omega)]
  rfl
theorem ext2 (r : ByteArray) (i : Nat) (h : i + 2 ≤ r.size) : (r.extract i (i + 2)).toList = [r[i], r[i + 1]] := by
  rw [Lib.extract_toList, drop2 r i h, show i + 2 - i = 2 by omega]; rfl

theorem nest_open (r : ByteArray) (i op : Nat) (h : i + 2 ≤ r.size) (h1 : ((r.extract i (i + 2)).toList == [47, 42]) = true) :
    qNestGo (r.data.toList.drop i) i op = if op = 100 then (6, 0) else qNestGo (r.data.toList.drop (i + 2)) (i + 2) (op + 1) := by
  rw [ext2 r i h] at h1
  rw [drop2 r i h, qNestGo, if_pos h1]
theorem nest_shut (r : ByteArray) (i op : Nat) (h : i + 2 ≤ r.size) (h1 : ((r.extract i (i + 2)).toList == [47, 42]) = false) (h2 : ((r.extract i (i + 2)).toList == [42, 47]) = true) :
    qNestGo (r.data.toList.drop i) i op = if op = 1 then (0, i + 2) else qNestGo (r.data.toList.drop (i + 2)) (i + 2) (op - 1) := by
  rw [ext2 r i h] at h1 h2
  rw [drop2 r i h, qNestGo, if_neg (by simp [h1]), if_pos h2]
theorem nest_on (r : ByteArray) (i op : Nat) (h : i + 2 ≤ r.size) (h1 : ((r.extract i (i + 2)).toList == [47, 42]) = false) (h2 : ((r.extract i (i + 2)).toList == [42, 47]) = false) :
    qNestGo (r.data.toList.drop i) i op = qNestGo (r.data.toList.drop (i + 1)) (i + 1) op := by
  rw [ext2 r i h] at h1 h2
  rw [drop2 r i h, qNestGo, if_neg (by simp [h1]), if_neg (by simp [h2])]
  congr 1
  rw [List.drop_eq_getElem_cons (i := i + 1) (by simp; omega)]; rfl
theorem nest_end (r : ByteArray) (i op : Nat) (h : r.size < i + 2) : qNestGo (r.data.toList.drop i) i op = (13, 0) := by
  have hl : (r.data.toList.drop i).length ≤ 1 := by simp; omega
  match r.data.toList.drop i, hl with
  | [], _ => rfl
  | [a], _ => rfl

/-- An end with an error, or with a length. -/
def endLen (p : Nat × Nat) (i : Nat) : Ending := if p.1 = 0 then .returned (.int .i64 (p.2 : Int)) else refusal p.1 i

set_option maxHeartbeats 2000000 in
theorem nested_any (r s : ByteArray) (b i0 t : Nat) (op0 : Bool) (hs : r.size ≤ 20000) (hr : ((r.extract 0 2).toList == [47, 42]) = true) (w : World) (hc : Cut w b s i0 t op0) :
    Calls Tryz.prog 174 #[.pointer (some ⟨b, 0, none⟩), .string r] w fun e w' => e = endLen (qNest r.data.toList) i0 ∧ w = w' := by
  have HC := Lib.hid hc
  have HR := Lib.hid hr
  clear hc hr
  go_enter Tryz.func174, Tryz.ntmps174
  go_wp2
  go_loop [5, 6] (fun o x => ∃ (i op : Nat), i ≤ r.size ∧ o = .int .i64 op ∧ x = .int .i64 i ∧ op ≤ 100 ∧ (i = 0 ∨ 1 ≤ op) ∧ (i = 0 → op = 0) ∧ Hid (qNest r.data.toList = qNestGo (r.data.toList.drop i) i op)) (fun _ x => r.size - (intOf x).toNat)
  case atStart => exact ⟨0, 0, by omega, rfl, rfl, by omega, by omega, by omega, Lib.hid rfl⟩
  case round =>
    obtain ⟨i, op, hi, rfl, rfl, hop, hor, hz, hN⟩ := hrel
    by_cases hlt : i + 2 ≤ r.size
    · cases h1 : ((r.extract i (i + 2)).toList == [47, 42])
      · have hi1 : 1 ≤ op := by
          rcases hor with h0 | h0
          · subst h0; rw [HR.out] at h1; cases h1
          · exact h0
        cases h2 : ((r.extract i (i + 2)).toList == [42, 47])
        · have hN2 := Lib.hid (hN.out.trans (nest_on r i op hlt h1 h2))
          go_wp2_with fail
          go_round
          case rel => exact ⟨i + 1, op, by omega, rfl, by go_num, hop, .inr hi1, by omega, hN2⟩
          case measure => simp [intOf]; omega
        · have hN2 := Lib.hid (hN.out.trans (nest_shut r i op hlt h1 h2))
          cases ho : (((op : Int) - 1) == 0)
          · have hN3 := Lib.hid (hN2.out.trans (if_neg (by simp at ho; omega)))
            have ho2 : 2 ≤ op := by simp at ho; omega
            go_wp2_with fail
            go_round
            case rel => exact ⟨i + 2, op - 1, by omega, by rw [show ((op - 1 : Nat) : Int) = (op : Int) - 1 by omega], by rw [show ((i + 2 : Nat) : Int) = (i : Int) + 1 + 1 by omega], by omega, .inr (by omega), by omega, hN3⟩
            case measure => simp [intOf]; omega
          · have hN3 := Lib.hid (hN2.out.trans (if_pos (by simp at ho; omega)))
            go_wp2_with fail
            go_ret
            exact ⟨by unfold endLen; rw [hN3.out, if_pos rfl]; exact ret_int (by show (i : Int) + 1 + 1 = ((i + 2 : Nat) : Int); omega), rfl⟩
      · have hN2 := Lib.hid (hN.out.trans (nest_open r i op hlt h1))
        cases ho : ((op : Int) == 100)
        · have hN3 := Lib.hid (hN2.out.trans (if_neg (by simp at ho; omega)))
          have ho2 : op ≤ 99 := by simp at ho; omega
          go_wp2_with fail
          go_round
          case rel => exact ⟨i + 2, op + 1, by omega, by go_num, by rw [show ((i + 2 : Nat) : Int) = (i : Int) + 1 + 1 by omega], by omega, .inr (by omega), by omega, hN3⟩
          case measure => simp [intOf]; omega
        · have hN3 := Lib.hid (hN2.out.trans (if_pos (by simp at ho; omega)))
          go_wp2_with fail
          refine (refuse_any s b i0 t op0 _ _ HC.out).mono ?_
          rintro e w' ⟨rfl, rfl⟩
          go_wp2_with fail
          exact ⟨rfl, by unfold endLen; rw [hN3.out]; rfl, rfl⟩
    · have hN2 := Lib.hid (hN.out.trans (nest_end r i op (by omega)))
      go_wp2_with fail
      refine (refuse_any s b i0 t op0 _ _ HC.out).mono ?_
      rintro e w' ⟨rfl, rfl⟩
      go_wp2_with fail
      exact ⟨rfl, by unfold endLen; rw [hN2.out]; rfl, rfl⟩

/-- The comment at the head: an error, and how much it takes. -/
def qComment (l : Bs) : Nat × Nat :=
  if (l.take 2 == [47, 47]) = true then (0, if (0 : Int) ≤ Lib.indexByte l 10 then (Lib.indexByte l 10).toNat else l.length)
  else if (l.take 2 == [47, 42]) = true then qNest l
  else (0, 0)
theorem qC_line (l : Bs) (h : (l.take 2 == [47, 47]) = true) : qComment l = (0, if (0 : Int) ≤ Lib.indexByte l 10 then (Lib.indexByte l 10).toNat else l.length) := if_pos h
theorem qC_nest (l : Bs) (h : (l.take 2 == [47, 47]) = false) (h2 : (l.take 2 == [47, 42]) = true) : qComment l = qNest l := (if_neg (by simp [h])).trans (if_pos h2)
theorem qC_none (l : Bs) (h : (l.take 2 == [47, 47]) = false) (h2 : (l.take 2 == [47, 42]) = false) : qComment l = (0, 0) := (if_neg (by simp [h])).trans (if_neg (by simp [h2]))

theorem endLen_cases (p : Nat × Nat) (i : Nat) : endLen p i = .returned (.int .i64 (p.2 : Int)) ∨ endLen p i = .panicked [{ v := .iface 161 (.agg #[.int .i64 p.1, .int .i64 i]), recovered := false }] := by
  by_cases h : p.1 = 0
  · exact .inl (if_pos h)
  · exact .inr (if_neg h)

set_option maxHeartbeats 2000000 in
theorem comment_any (s : ByteArray) (b i t : Nat) (op : Bool) (hi : i ≤ s.size) (hs : s.size ≤ 20000) (w : World) (hc : Cut w b s i t op) :
    Calls Tryz.prog 156 #[.pointer (some ⟨b, 0, none⟩)] w fun e w' => e = endLen (qComment (s.data.toList.drop i)) i ∧ Below w.heap.size w w' := by
  have HC := Lib.hid hc
  clear hc
  go_enter Tryz.func156, Tryz.ntmps156
  go_wp2_with fail
  refine (rest_r s b i t op hi _ HC.out).mono ?_
  rintro e w' ⟨r, n, rfl, rfl, hR, hz⟩
  have hb := bl w n
  have hz2 : r.size ≤ 20000 := by rw [hz.out]; omega
  cases h1 : (r.data.toList.take 2 == [47, 47])
  · cases h2 : (r.data.toList.take 2 == [47, 42])
    · have hv := Lib.hid (qC_none _ h1 h2)
      go_wp2_with (go_at_call 172; refine (hasPrefix_r _ _ _).mono ?_; rintro e w' ⟨rfl, rfl⟩)
      go_ret
      exact ⟨by rw [← hR.out, hv.out]; rfl, hb⟩
    · have hv := Lib.hid (qC_nest _ h1 h2)
      have hx : ((r.extract 0 2).toList == [47, 42]) = true := by rw [Lib.extract_toList]; simpa using h2
      go_wp2_with (go_at_call 172; refine (hasPrefix_r _ _ _).mono ?_; rintro e w' ⟨rfl, rfl⟩)
      refine (nested_any r s b i t op hz2 hx _ (HC.out.below hb)).mono ?_
      rintro e w' ⟨rfl, rfl⟩
      rcases endLen_cases (qNest r.data.toList) i with he | he
      · have HE := Lib.hid he
        rw [he]
        clear he
        go_wp2_with fail
        go_ret
        exact ⟨by rw [← hR.out, hv.out, HE.out]; rfl, hb⟩
      · have HE := Lib.hid he
        rw [he]
        clear he
        go_wp2_with fail
        exact ⟨rfl, by rw [← hR.out, hv.out, HE.out], hb⟩
  · have hv := Lib.hid (qC_line _ h1)
    have hlen : Hid (r.data.toList.length = r.size) := Lib.hid (by simp)
    by_cases hx : (0 : Int) ≤ Lib.indexByte r.data.toList 10
    · go_wp2_with (first | (go_at_call 172; refine (hasPrefix_r _ _ _).mono ?_; rintro e w' ⟨rfl, rfl⟩) | (go_at_call 173; refine (Tryz.strings_IndexByte _ _ _).mono ?_; rintro e w' ⟨rfl, rfl⟩))
      go_ret
      refine ⟨?_, hb⟩
      rw [← hR.out, hv.out, if_pos hx]
      unfold endLen; rw [if_pos rfl]; exact ret_int (by show _ = ((Int.toNat _ : Nat) : Int); rw [Int.toNat_of_nonneg hx])
    · go_wp2_with (first | (go_at_call 172; refine (hasPrefix_r _ _ _).mono ?_; rintro e w' ⟨rfl, rfl⟩) | (go_at_call 173; refine (Tryz.strings_IndexByte _ _ _).mono ?_; rintro e w' ⟨rfl, rfl⟩))
      go_ret
      refine ⟨?_, hb⟩
      rw [← hR.out, hv.out, if_neg (by omega)]
      unfold endLen; rw [if_pos rfl]; exact ret_int (by rw [hlen.out])
end Go.Proofs.YtopbmndjnjnmcaaGreatDoor

/- (A12) -/
/- Package lex: next. -/
namespace Go.Proofs.YtopbmndjnjnmcaaGreatDoor
open Go.RowKit Lx

theorem qPlain_le (l : Bs) : qPlain l ≤ l.length := by simpa [qPlain] using qGo_le l 0 0 false (by omega)
theorem ite_le (c : Bool) (a b m : Nat) (ha : a ≤ m) (hb : b ≤ m) : (if c = true then a else b) ≤ m := by cases c <;> simpa
theorem qName_le (l : Bs) : qName l ≤ l.length := by
  have h := qPlain_le l
  unfold qName; simp only
  by_cases hx : qPlain l + 1 < l.length
  · have h3 := qRun_le 5 (l.drop (qPlain l + 2)); simp only [List.length_drop] at h3
    exact ite_le _ _ _ _ (by omega) h
  · rw [List.getElem?_eq_none (i := qPlain l + 1) (by omega)]
    show (if (_ && _ && false) = true then _ else _) ≤ _
    rw [Bool.and_false]; exact h
theorem qInt_le (l : Bs) (op : Bool) : qInt l op ≤ l.length := by
  unfold qInt; simp only
  by_cases h : (l.head? == some 45 && !op) = true
  · simp only [h, if_true]
    have h3 := qRun_le 1 (l.drop 1); simp only [List.length_drop] at h3
    split
    · omega
    · omega
  · simp only [h, if_false, Bool.false_eq_true]
    have h3 := qRun_le 1 (l.drop 0); simp at h3
    split
    · simpa using h3
    · omega
theorem qKey_le (l : Bs) : qKey l ≤ l.length := by
  have h := qPlain_le l
  unfold qKey; simp only; split
  · rename_i hc
    simp only [Bool.and_eq_true] at hc
    have := qColon_len _ hc.2; simp at this; omega
  · omega
theorem qHash_le (l : Bs) : qHash l ≤ l.length := by
  unfold qHash; split
  · rename_i hc
    match l, hc with
    | [], hc => exact absurd hc (by decide)
    | [a], hc => simp at hc
    | a :: b :: t, _ => simp
  · omega
theorem qSign_le (l : Bs) : qSign l ≤ l.length := by
  match l with
  | [] => decide
  | [a] => simp only [qSign]; split
           · rename_i hc; simp [qTwo] at hc
           · simp; split <;> omega
  | a :: b :: t =>
    unfold qSign; split
    · simp
    · simp; split <;> omega
theorem qPat_le (l : Bs) : qPat l ≤ l.length := by
  unfold qPat; split
  · simp only; split
    · omega
    · have h1 := qPlain_le (l.drop 1)
      have h2 := qPlain_le (l.drop (qPlain (l.drop 1) + 2))
      simp only [List.length_drop] at h1 h2
      split
      · rename_i hc
        simp only [Bool.and_eq_true, decide_eq_true_eq] at hc
        omega
      · omega
  · omega
theorem qLen_le (l : Bs) (op : Bool) (k : Nat) : qLen l op k ≤ l.length := by
  unfold qLen; split
  · exact qName_le l
  · exact qInt_le l op
  · exact qKey_le l
  · exact qHash_le l
  · exact qSign_le l
  · exact qPat_le l
theorem qB_le (l : Bs) (op : Bool) (k : Nat) : (qB l op k).2 ≤ l.length ∧ (qB l op k).1 ≤ k := by
  induction k with
  | zero => simp [qB]
  | succ k ih =>
    simp only [qB, qBetter]; split
    · exact ⟨qLen_le l op k, by omega⟩
    · exact ⟨ih.1, by omega⟩
theorem qLongest_le (l : Bs) (op : Bool) : (qLongest l op).2 ≤ l.length ∧ (qLongest l op).1 ≤ 6 := qB_le l op 6

/-- The piece at an offset: an error, the kind, how much it takes. -/
structure Cutted where
  er : Nat
  kind : Nat
  len : Nat
def qNext (l : Bs) (i : Nat) (op : Bool) : Cutted :=
  if (qComment (l.drop i)).1 ≠ 0 then ⟨(qComment (l.drop i)).1, 0, 0⟩
  else if 0 < (qComment (l.drop i)).2 then ⟨0, 8, (qComment (l.drop i)).2⟩
  else if 0 < qRun 7 (l.drop i) then ⟨0, 7, qRun 7 (l.drop i)⟩
  else if qCheck l i (qLongest ((l.drop i).take 100) op).1 (qLongest ((l.drop i).take 100) op).2 ≠ 0 then ⟨qCheck l i (qLongest ((l.drop i).take 100) op).1 (qLongest ((l.drop i).take 100) op).2, 0, 0⟩
  else ⟨0, (qLongest ((l.drop i).take 100) op).1, (qLongest ((l.drop i).take 100) op).2⟩

def endPiece (c : Cutted) (i : Nat) : Ending := if c.er = 0 then .returned (.agg #[.int .i64 (c.kind : Int), .int .i64 (i : Int), .int .i64 (c.len : Int)]) else refusal c.er i

theorem longest_ex (s : ByteArray) (b i t : Nat) (op : Bool) (hi : i < s.size) (hs : s.size ≤ 20000) (w : World) (hc : Cut w b s i t op) :
    Calls Tryz.prog 159 #[.pointer (some ⟨b, 0, none⟩)] w fun e w' => ∃ k n : Nat, e = .returned (.tuple #[.int .i64 k, .int .i64 n]) ∧ Hid (qLongest ((s.data.toList.drop i).take 100) op = (k, n)) ∧ n ≤ 100 ∧ i + n ≤ s.size ∧ k ≤ 6 ∧ Below w.heap.size w w' := by
  refine (longest_any s b i t op hi hs w hc).mono ?_
  rintro e w' ⟨rfl, hb⟩
  have h := qLongest_le (qLook s i) op
  have h2 : (qLook s i).length = min 100 (s.size - i) := by simp [qLook]
  exact ⟨_, _, rfl, Lib.hid rfl, by omega, by omega, h.2, hb⟩

theorem cells3 {w : World} {r : Nat} {a b c : Value} {t : TypeId} (h : w.heap[r]? = some (.cells #[a, b, c] t (0, 0))) :
    w.cell? ⟨r, 0, none⟩ = some a ∧ w.cell? ⟨r, 1, none⟩ = some b ∧ w.cell? ⟨r, 2, none⟩ = some c ∧ w.frozen? ⟨r, 0, none⟩ = false ∧ w.frozen? ⟨r, 1, none⟩ = false ∧ w.frozen? ⟨r, 2, none⟩ = false := by
  refine ⟨?_, ?_, ?_, ?_, ?_, ?_⟩ <;> simp [World.cell?, World.frozen?, h]

theorem below3 {B r : Nat} {a W : World} (h : Below B a W) (hr : B ≤ r) (x y z : Value) : Below B a (((W.setCell ⟨r, 0, none⟩ x).setCell ⟨r, 1, none⟩ y).setCell ⟨r, 2, none⟩ z) :=
  ((h.setCell (p := ⟨r, 0, none⟩) hr x).setCell (p := ⟨r, 1, none⟩) hr y).setCell (p := ⟨r, 2, none⟩) hr z

set_option maxHeartbeats 4000000 in
theorem next_any (s : ByteArray) (b i t : Nat) (op : Bool) (hi : i < s.size) (hs : s.size ≤ 20000) (w : World) (hc : Cut w b s i t op) (he : Env w) :
    Calls Tryz.prog 142 #[.pointer (some ⟨b, 0, none⟩)] w fun e w' => e = endPiece (qNext s.data.toList i op) i ∧ Below w.heap.size w w' := by
  have HC := Lib.hid hc
  have HE := Lib.hid he
  clear hc he
  have hb0 := (Below.refl w.heap.size w).alloc (Nat.le_refl _) (.cells #[.int .i64 0, .int .i64 0, .int .i64 0] 127)
  go_enter Tryz.func142, Tryz.ntmps142
  go_wp2_with fail
  refine (comment_any s b i t op (by omega) hs _ (HC.out.below hb0)).mono ?_
  rintro e w1 ⟨rfl, hb1⟩
  have hb1' := bt hb0 hb1
  have lb := (HC.out.below hb1').lt
  have hr1 : Hid (w1.heap[w.heap.size]? = some (.cells #[.int .i64 0, .int .i64 0, .int .i64 0] 127 (0, 0))) := Lib.hid ((hb1.block w.heap.size (by simp)).trans (World.alloc_heap_new w _))
  have HC1 := Lib.hid (HC.out.below hb1')
  by_cases he0 : (qComment (s.data.toList.drop i)).1 = 0
  · have he : endLen (qComment (s.data.toList.drop i)) i = .returned (.int .i64 ((qComment (s.data.toList.drop i)).2 : Int)) := if_pos he0
    rw [he]
    clear he
    obtain ⟨m, hm⟩ : ∃ m, (qComment (s.data.toList.drop i)).2 = m := ⟨_, rfl⟩
    rw [hm]
    by_cases hm0 : 0 < m
    · have hv : Hid (qNext s.data.toList i op = ⟨0, 8, m⟩) := Lib.hid (by unfold qNext; rw [if_neg (by simp [he0]), hm, if_pos hm0])
      clear hm he0
      obtain ⟨r0, r1, r2, q0, q1, q2⟩ := cells3 hr1.out
      obtain ⟨_, c1, _, _⟩ := HC1.out
      go_wp2_with fail
      refine bodyPost_ret (v := .agg #[.int .i64 8, .int .i64 i, .int .i64 m]) (by simp [results, Tryz.results142, go_sem, r0, r1, r2]) rfl ⟨?_, below3 hb1' (Nat.le_refl _) _ _ _⟩
      unfold endPiece; rw [hv.out, if_pos rfl]; rfl
    · have hv : Hid (∀ x, (if 0 < qRun 7 (s.data.toList.drop i) then (⟨0, 7, qRun 7 (s.data.toList.drop i)⟩ : Cutted)
          else if qCheck s.data.toList i (qLongest ((s.data.toList.drop i).take 100) op).1 (qLongest ((s.data.toList.drop i).take 100) op).2 ≠ 0 then ⟨qCheck s.data.toList i (qLongest ((s.data.toList.drop i).take 100) op).1 (qLongest ((s.data.toList.drop i).take 100) op).2, 0, 0⟩
          else ⟨0, (qLongest ((s.data.toList.drop i).take 100) op).1, (qLongest ((s.data.toList.drop i).take 100) op).2⟩) = x → qNext s.data.toList i op = x) := by
        intro x hx; unfold qNext; rw [if_neg (by simp [he0]), hm, if_neg hm0]; exact hx
      clear hm he0
      go_wp2_with fail
      refine (rest_r s b i t op (by omega) _ HC1.out).mono ?_
      rintro e w' ⟨r, q, rfl, rfl, hR, hz⟩
      go_wp2_with fail
      refine (run7_any r (by rw [hz.out]; omega) _).mono ?_
      rintro e w2 ⟨k, rfl, hK, hk, hb2⟩
      rw [hR.out] at hK
      have hb2' := bt (bl w1 q) hb2
      have hbw2 := bt hb1' hb2'
      have HC2 := Lib.hid (HC1.out.below hb2')
      have hr2 : Hid (w2.heap[w.heap.size]? = some (.cells #[.int .i64 0, .int .i64 0, .int .i64 0] 127 (0, 0))) := Lib.hid ((hb2'.block w.heap.size (Array.getElem?_eq_some_iff.1 hr1.out).1).trans hr1.out)
      by_cases hk0 : 0 < k
      · have hv2 : Hid (qNext s.data.toList i op = ⟨0, 7, k⟩) := Lib.hid (hv.out _ (by rw [hK.out, if_pos hk0]))
        obtain ⟨r0, r1, r2, q0, q1, q2⟩ := cells3 hr2.out
        obtain ⟨_, c1, _, _⟩ := HC2.out
        have lb2 := HC2.out.lt
        go_wp2_with fail
        refine bodyPost_ret (v := .agg #[.int .i64 7, .int .i64 i, .int .i64 k]) (by simp [results, Tryz.results142, go_sem, r0, r1, r2]) rfl ⟨?_, below3 hbw2 (Nat.le_refl _) _ _ _⟩
        unfold endPiece; rw [hv2.out, if_pos rfl]; rfl
      · have hv2 : Hid (∀ x, (if qCheck s.data.toList i (qLongest ((s.data.toList.drop i).take 100) op).1 (qLongest ((s.data.toList.drop i).take 100) op).2 ≠ 0 then (⟨qCheck s.data.toList i (qLongest ((s.data.toList.drop i).take 100) op).1 (qLongest ((s.data.toList.drop i).take 100) op).2, 0, 0⟩ : Cutted)
          else ⟨0, (qLongest ((s.data.toList.drop i).take 100) op).1, (qLongest ((s.data.toList.drop i).take 100) op).2⟩) = x → qNext s.data.toList i op = x) := by
          intro x hx; exact hv.out x (by rw [hK.out, if_neg hk0]; exact hx)
        go_wp2_with fail
        refine (longest_ex s b i t op hi hs _ HC2.out).mono ?_
        rintro e w3 ⟨kd, n, rfl, hL, hn1, hn2, _, hb3⟩
        have HC3 := Lib.hid (HC2.out.below hb3)
        have hbw3 := bt hbw2 hb3
        have hr3 : Hid (w3.heap[w.heap.size]? = some (.cells #[.int .i64 0, .int .i64 0, .int .i64 0] 127 (0, 0))) := Lib.hid ((hb3.block w.heap.size (Array.getElem?_eq_some_iff.1 hr2.out).1).trans hr2.out)
        go_wp2_with fail
        refine (check_any s b i t n kd op hi hn1 hn2 hs _ HC3.out (HE.out.below hbw3)).mono ?_
        rintro e w4 ⟨rfl, hb4⟩
        have HC4 := Lib.hid (HC3.out.below hb4)
        have hbw4 := bt hbw3 hb4
        have hr4 : Hid (w4.heap[w.heap.size]? = some (.cells #[.int .i64 0, .int .i64 0, .int .i64 0] 127 (0, 0))) := Lib.hid ((hb4.block w.heap.size (Array.getElem?_eq_some_iff.1 hr3.out).1).trans hr3.out)
        by_cases hq : qCheck s.data.toList i kd n = 0
        · have hv3 : Hid (qNext s.data.toList i op = ⟨0, kd, n⟩) := Lib.hid (hv2.out _ (by rw [hL.out]; simp [hq]))
          rw [if_pos hq]
          clear hq
          obtain ⟨r0, r1, r2, q0, q1, q2⟩ := cells3 hr4.out
          obtain ⟨_, c1, _, _⟩ := HC4.out
          have lb4 := HC4.out.lt
          go_wp2_with fail
          refine bodyPost_ret (v := .agg #[.int .i64 kd, .int .i64 i, .int .i64 n]) (by simp [results, Tryz.results142, go_sem, r0, r1, r2]) rfl ⟨?_, below3 hbw4 (Nat.le_refl _) _ _ _⟩
          unfold endPiece; rw [hv3.out, if_pos rfl]
        · have hv3 : Hid (qNext s.data.toList i op = ⟨qCheck s.data.toList i kd n, 0, 0⟩) := Lib.hid (hv2.out _ (by rw [hL.out]; simp [hq]))
          have hend : Hid (endPiece (qNext s.data.toList i op) i = refusal (qCheck s.data.toList i kd n) i) := Lib.hid (by unfold endPiece; rw [hv3.out]; exact if_neg hq)
          rw [if_neg hq]
          clear hq
          unfold refusal at hend ⊢
          go_wp2_with fail
          exact ⟨rfl, hend.out.symm, hbw4⟩
  · have he : endLen (qComment (s.data.toList.drop i)) i = refusal (qComment (s.data.toList.drop i)).1 i := if_neg he0
    have hv : Hid (qNext s.data.toList i op = ⟨(qComment (s.data.toList.drop i)).1, 0, 0⟩) := Lib.hid (by unfold qNext; rw [if_pos he0])
    have hend : Hid (endPiece (qNext s.data.toList i op) i = refusal (qComment (s.data.toList.drop i)).1 i) := Lib.hid (by unfold endPiece; rw [hv.out]; exact if_neg he0)
    rw [he]
    clear he he0
    unfold refusal at hend ⊢
    go_wp2_with fail
    exact ⟨rfl, hend.out.symm, hb1'⟩
end Go.Proofs.YtopbmndjnjnmcaaGreatDoor

/- (A13) -/
/- Package lex: the pieces of a text as lists. -/
namespace Go.Proofs.YtopbmndjnjnmcaaGreatDoor
open Go.RowKit Lx

theorem qNestGo_le (l : Bs) (i op : Nat) : (qNestGo l i op).2 ≤ i + l.length := by
  induction l, i, op using qNestGo.induct with
  | case1 i a b t h => rw [qNestGo, if_pos h, if_pos rfl]; omega
  | case2 i op a b t h h2 ih => rw [qNestGo, if_pos h, if_neg h2]; simp only [List.length_cons] at ih ⊢; omega
  | case3 i a b t h h2 => rw [qNestGo, if_neg h, if_pos h2, if_pos rfl]; simp
  | case4 i op a b t h h2 h3 ih => rw [qNestGo, if_neg h, if_pos h2, if_neg h3]; simp only [List.length_cons] at ih ⊢; omega
  | case5 i op a b t h h2 ih => rw [qNestGo, if_neg h, if_neg h2]; simp only [List.length_cons] at ih ⊢; omega
  | case6 i op a => simp [qNestGo]
  | case7 i op => simp [qNestGo]

theorem indexByte_lt (l : Bs) (c : UInt8) : Lib.indexByte l c < (l.length : Int) + 1 := by
  induction l with
  | nil => simp [Lib.indexByte]
  | cons a t ih =>
    simp only [Lib.indexByte]; split
    · simp; omega
    · split
      · simp; omega
      · simp; omega

theorem qComment_le (l : Bs) : (qComment l).2 ≤ l.length := by
  unfold qComment; split
  · simp only; split
    · have := indexByte_lt l 10; omega
    · omega
  · split
    · have := qNestGo_le l 0 0; simpa [qNest] using this
    · simp

theorem qNext_len (l : Bs) (i : Nat) (op : Bool) (hi : i < l.length) (h : (qNext l i op).er = 0) : 1 ≤ (qNext l i op).len ∧ i + (qNext l i op).len ≤ l.length ∧ (qNext l i op).kind ≤ 8 := by
  have h1 := qComment_le (l.drop i)
  have h2 := qRun_le 7 (l.drop i)
  have h3 := qLongest_le ((l.drop i).take 100) op
  simp only [List.length_drop, List.length_take] at h1 h2 h3
  unfold qNext at h ⊢
  split
  · rename_i hc; rw [if_pos hc] at h; exact absurd h hc
  · split
    · simp only; omega
    · split
      · simp only; omega
      · split
        · rename_i a1 a2 a3 a4; rw [if_neg a1, if_neg a2, if_neg a3, if_pos a4] at h; exact absurd h a4
        · rename_i a1 a2 a3 a4
          simp only
          have h5 : qCheck l i (qLongest ((l.drop i).take 100) op).1 (qLongest ((l.drop i).take 100) op).2 = 0 := by simpa using a4
          refine ⟨?_, by omega, by omega⟩
          by_cases h6 : (qLongest ((l.drop i).take 100) op).2 = 0
          · exfalso
            rw [h6] at h5
            unfold qCheck at h5
            split at h5
            · cases h5
            · split at h5
              · cases h5
              · simp at h5
          · omega

/-- A piece. -/
structure Pc where
  kind : Nat
  at_ : Nat
  len : Nat
instance : DecidableEq Pc := fun p q => if h : p.kind = q.kind ∧ p.at_ = q.at_ ∧ p.len = q.len then isTrue (by cases p; cases q; simp_all) else isFalse (fun e => h (by subst e; exact ⟨rfl, rfl, rfl⟩))

/-- Where a cutter stands. -/
structure St where
  i : Nat
  t : Nat
  op : Bool

/-- The state behind a piece. -/
def qAfter (l : Bs) (x : St) (kind len : Nat) : St := if kind < 7 then ⟨x.i + len, x.t + 1, qOper l x.i kind⟩ else ⟨x.i + len, x.t, x.op⟩

/-- The pieces from a state on, and the error that ends them, with its place. -/
def qCutAll (l : Bs) : Nat → St → List Pc × Option (Nat × Nat)
  | 0, _ => ([], none)
  | n + 1, x =>
    if l.length ≤ x.i then ([], none)
    else if (qNext l x.i x.op).er ≠ 0 then ([], some ((qNext l x.i x.op).er, x.i))
    else if (qNext l x.i x.op).kind < 7 ∧ x.t = 6000 then ([], some (2, x.i))
    else (⟨(qNext l x.i x.op).kind, x.i, (qNext l x.i x.op).len⟩ :: (qCutAll l n (qAfter l x (qNext l x.i x.op).kind (qNext l x.i x.op).len)).1, (qCutAll l n (qAfter l x (qNext l x.i x.op).kind (qNext l x.i x.op).len)).2)

theorem qAfter_i (l : Bs) (x : St) (k n : Nat) : (qAfter l x k n).i = x.i + n := by unfold qAfter; split <;> rfl

theorem qCutAll_fuel (l : Bs) (n : Nat) : ∀ (x : St), l.length - x.i < n → ∀ m, n ≤ m → qCutAll l m x = qCutAll l n x := by
  induction n with
  | zero => intro x h; omega
  | succ n ih =>
    intro x h m hm
    obtain ⟨m, rfl⟩ : ∃ m', m = m' + 1 := ⟨m - 1, by omega⟩
    simp only [qCutAll]
    split
    · rfl
    · split
      · rfl
      · split
        · rfl
        · rename_i a1 a2 a3
          have hl := qNext_len l x.i x.op (by omega) (by simpa using a2)
          have := ih (qAfter l x (qNext l x.i x.op).kind (qNext l x.i x.op).len) (by rw [qAfter_i]; omega) m (by omega)
          rw [this]

/-- The pieces from a state on. -/
def qFrom (l : Bs) (x : St) : List Pc × Option (Nat × Nat) := qCutAll l (l.length - x.i + 1) x

theorem qFrom_end (l : Bs) (x : St) (h : l.length ≤ x.i) : qFrom l x = ([], none) := by
  unfold qFrom; simp only [qCutAll]; rw [if_pos h]
theorem qFrom_err (l : Bs) (x : St) (h : x.i < l.length) (he : (qNext l x.i x.op).er ≠ 0) : qFrom l x = ([], some ((qNext l x.i x.op).er, x.i)) := by
  unfold qFrom; simp only [qCutAll]; rw [if_neg (by omega), if_pos he]
theorem qFrom_many (l : Bs) (x : St) (h : x.i < l.length) (he : (qNext l x.i x.op).er = 0) (hk : (qNext l x.i x.op).kind < 7) (ht : x.t = 6000) : qFrom l x = ([], some (2, x.i)) := by
  unfold qFrom; simp only [qCutAll]; rw [if_neg (by omega), if_neg (by simp [he]), if_pos ⟨hk, ht⟩]
theorem qFrom_cons (l : Bs) (x : St) (h : x.i < l.length) (he : (qNext l x.i x.op).er = 0) (hk : ¬ ((qNext l x.i x.op).kind < 7 ∧ x.t = 6000)) :
    qFrom l x = (⟨(qNext l x.i x.op).kind, x.i, (qNext l x.i x.op).len⟩ :: (qFrom l (qAfter l x (qNext l x.i x.op).kind (qNext l x.i x.op).len)).1, (qFrom l (qAfter l x (qNext l x.i x.op).kind (qNext l x.i x.op).len)).2) := by
  have hl := qNext_len l x.i x.op h he
  unfold qFrom
  rw [show l.length - x.i + 1 = (l.length - x.i) + 1 from rfl, qCutAll, if_neg (by omega), if_neg (by simp [he]), if_neg hk]
  rw [qCutAll_fuel l (l.length - (qAfter l x (qNext l x.i x.op).kind (qNext l x.i x.op).len).i + 1) _ (by omega) (l.length - x.i) (by rw [qAfter_i]; omega)]

/-- The pieces of a text, or an error and its place. -/
def qPieces (l : Bs) : List Pc × Option (Nat × Nat) := if 20000 < l.length then ([], some (2, 0)) else qFrom l ⟨0, 0, false⟩
end Go.Proofs.YtopbmndjnjnmcaaGreatDoor

/- (A14) -/
/- Package lex: the iterator over pieces. -/
namespace Go.Proofs.YtopbmndjnjnmcaaGreatDoor
open Go.RowKit Lx

attribute [local go_sem] Oper.semAt_some

def PcV (p : Pc) : Value := .agg #[.int .i64 (p.kind : Int), .int .i64 (p.at_ : Int), .int .i64 (p.len : Int)]

theorem Env.kept {w w' : World} (h : Env w) {b : Nat} (hb6 : 6 ≤ b) (hg : w.grownBy w' (some b)) : Env w' := by
  have hs := h.size
  have hb : Below 6 w w' := ⟨hg.os, hg.tape, hg.output, hg.size, fun k hk => hg.block k (by omega) (fun e => by cases e; omega)⟩
  obtain ⟨m, hm⟩ := h.max
  obtain ⟨t2, p2, h2⟩ := h.syn
  obtain ⟨t3, p3, h3⟩ := h.rng
  exact ⟨⟨m, (hb.cell (p := ⟨0, 0, none⟩) (by show 0 < _; omega)).trans hm⟩, ⟨t2, p2, (hb.cell (p := ⟨1, 0, none⟩) (by show 1 < _; omega)).trans h2⟩, ⟨t3, p3, (hb.cell (p := ⟨2, 0, none⟩) (by show 2 < _; omega)).trans h3⟩,
    var?_below hb pow10_global (by omega) h.tab, Nat.le_trans hs hb.size⟩

/-- What is left, read off the world. -/
def leftOf (s : ByteArray) (b : Nat) (w : World) : Nat := match w.cell? ⟨b, 1, none⟩ with | some v => s.size - (intOf v).toNat | none => 0
theorem leftOf_eq {s : ByteArray} {b : Nat} {w : World} {i t : Nat} {op : Bool} (h : CutB w b s i t op) : leftOf s b w = s.size - i := by
  unfold leftOf; rw [h.cut.2.1]; simp [intOf]

/-- How the iterator ends. -/
def IterEnd (s : ByteArray) (x0 : St) (I Ix : List Pc → St → World → Prop) (e : Ending) (W : World) : Prop :=
  (∃ pre x, e = .returned (.tuple #[]) ∧ I pre x W ∧ qFrom s.data.toList x0 = (pre, none) ∧ x.i = s.size) ∨
  (∃ pre x rest, e = .returned (.tuple #[]) ∧ Ix pre x W ∧ (qFrom s.data.toList x0).1 = pre ++ rest) ∨
  (∃ pre x er, e = refusal er x.i ∧ er ≠ 0 ∧ I pre x W ∧ qFrom s.data.toList x0 = (pre, some (er, x.i)))

set_option maxHeartbeats 4000000 in
theorem pieces_iter (s : ByteArray) (b : Nat) (hs : s.size ≤ 20000) (x0 : St) (l : Nat) (I Ix : List Pc → St → World → Prop)
    (hI1 : ∀ pre x W, I pre x W → CutB W b s x.i x.t x.op ∧ Env W)
    (hI2 : ∀ pre x x' W W', I pre x W → W.grownBy W' (some b) → CutB W' b s x'.i x'.t x'.op → I pre x' W')
    (hY : ∀ pre x p W, I pre x W → x.i ≤ s.size ∧ x.t ≤ 6000 → p.at_ + p.len = x.i → qFrom s.data.toList x0 = (pre ++ p :: (qFrom s.data.toList x).1, (qFrom s.data.toList x).2) →
      YieldAt Fence.wide 0 Tryz.prog l #[PcV p] W fun e W' => (e = .returned (.bool true) ∧ I (pre ++ [p]) x W') ∨ (e = .returned (.bool false) ∧ Ix (pre ++ [p]) x W'))
    (W : World) (h0 : I [] x0 W) (hx0 : x0.i ≤ s.size) (ht0 : x0.t ≤ 6000) :
    CallsIn Fence.wide 1 Tryz.prog 129 #[.pointer (some ⟨b, 0, none⟩), .func (.yield l) #[] #[]] W (IterEnd s x0 I Ix) := by
  refine callsIn_of_wp Tryz.func129 rfl trivial ?_ rfl
  simp only [Tryz.ntmps129, List.size_toArray, List.length_cons, List.length_nil, Nat.reduceAdd, Nat.reduceSub, Array.replicate_succ, Array.replicate_zero, List.push_toArray, List.append_toArray, List.nil_append, List.cons_append]
  gi_wp2
  gi_loopw [] (fun wr => ∃ pre x, Hid (I pre x wr) ∧ x.i ≤ s.size ∧ x.t ≤ 6000 ∧ Hid (qFrom s.data.toList x0 = (pre ++ (qFrom s.data.toList x).1, (qFrom s.data.toList x).2)))
    (fun wr => leftOf s b wr)
  case atStart => exact ⟨[], x0, Lib.hid h0, hx0, ht0, Lib.hid rfl⟩
  case round =>
    obtain ⟨pre, x, hI, hi, ht, hq⟩ := hrel
    obtain ⟨hc0, he0⟩ := hI1 pre x wr hI.out
    have HC := Lib.hid hc0
    have HE := Lib.hid he0
    clear hc0 he0
    have hst : Hid (∀ W', Below wr.heap.size wr W' → I pre x W') := Lib.hid (fun W' hb => hI2 pre x x wr W' hI.out (grown_bl hb _) (HC.out.below hb))
    by_cases hend : x.i = s.size
    · have HEND := Lib.hid hend
      gi_wp2_with fail
      refine ⟨trivial, (callsIn_wide.2 (done_any s b x.i _ HC.out.cut.1 HC.out.cut.2.1)).mono ?_⟩
      rintro e w' ⟨rfl, n, rfl⟩
      rw [show decide (x.i = s.size) = true by simpa using hend]
      gi_wp2_with fail
      go_end0
      exact .inl ⟨pre, x, rfl, hst.out _ (bl _ _), by rw [hq.out, qFrom_end _ _ (by simp; omega)]; simp, HEND.out⟩
    · have hlt : x.i < s.size := by omega
      gi_wp2_with fail
      refine ⟨trivial, (callsIn_wide.2 (done_any s b x.i _ HC.out.cut.1 HC.out.cut.2.1)).mono ?_⟩
      rintro e w' ⟨rfl, n, rfl⟩
      rw [show decide (x.i = s.size) = false by simpa using hend]
      clear hend
      have HCn := Lib.hid (HC.out.below (bl wr n))
      gi_wp2_with fail
      refine ⟨trivial, (callsIn_wide.2 (next_any s b x.i x.t x.op hlt hs _ HCn.out.cut (HE.out.below (bl wr n)))).mono ?_⟩
      rintro e w2 ⟨rfl, hb2⟩
      have hb2' := bt (bl wr n) hb2
      have HC2 := Lib.hid (HC.out.below hb2')
      by_cases her : (qNext s.data.toList x.i x.op).er = 0
      · have hln := qNext_len s.data.toList x.i x.op (by simpa using hlt) her
        unfold endPiece
        rw [if_pos her]
        obtain ⟨kd, hkd⟩ : ∃ kd, (qNext s.data.toList x.i x.op).kind = kd := ⟨_, rfl⟩
        obtain ⟨ln, hlnn⟩ : ∃ ln, (qNext s.data.toList x.i x.op).len = ln := ⟨_, rfl⟩
        have hmany := qFrom_many s.data.toList x (by simpa using hlt) her
        have hcons := qFrom_cons s.data.toList x (by simpa using hlt) her
        rw [hkd] at hln hmany hcons ⊢
        rw [hlnn] at hln hcons ⊢
        simp only [ByteArray.size_data, Array.length_toList] at hln
        have HM := Lib.hid hmany
        have HN := Lib.hid hcons
        clear hmany hcons hkd hlnn her
        by_cases hk7 : kd < 7
        · by_cases h6 : x.t = 6000
          · have HMq := Lib.hid (HM.out hk7 h6)
            rw [h6] at HC2
            gi_wp2_with fail
            refine ⟨trivial, (callsIn_wide.2 (take_bad s b x.i ln kd x.op hk7 _ (HC2.out.alloc _))).mono ?_⟩
            rintro e w3 ⟨rfl, hb3⟩
            unfold refusal
            gi_wp2_with fail
            exact ⟨rfl, .inr (.inr ⟨pre, x, 2, rfl, by decide, hst.out _ (bt hb2' (bt ((Below.refl _ _).alloc (Nat.le_refl _) _) hb3)), by rw [hq.out, HMq.out]; simp⟩)⟩
          · have hn' := HN.out (by omega)
            have XI : (qAfter s.data.toList x kd ln).i = x.i + ln := qAfter_i _ _ _ _
            have XT : (qAfter s.data.toList x kd ln).t ≤ 6000 := by unfold qAfter; rw [if_pos hk7]; show x.t + 1 ≤ 6000; omega
            have XE : Hid (qAfter s.data.toList x kd ln = ⟨x.i + ln, x.t + 1, qOper s.data.toList x.i kd⟩) := Lib.hid (if_pos hk7)
            gi_wp2_with fail
            refine ⟨trivial, (callsIn_wide.2 (take_ok s b x.i x.t ln kd x.op hlt (by omega) hs (by omega) hk7 _ (HC2.out.alloc _))).mono ?_⟩
            rintro e w3 ⟨rfl, hc3, hg⟩
            have hc3 : CutB w3 b s (qAfter s.data.toList x kd ln).i (qAfter s.data.toList x kd ln).t (qAfter s.data.toList x kd ln).op := by rw [XE.out]; exact hc3
            have hg3 := ((grown_bl hb2' (some b)).trans (World.grownBy_alloc w2 _ _)).trans hg
            have hp3 : Hid (w3.heap[w2.heap.size]? = some (.cells #[.int .i64 kd, .int .i64 x.i, .int .i64 ln] 127 (0, 0))) := Lib.hid ((hg.block w2.heap.size (by simp) (fun e => by have := HC2.out.lt; cases e; omega)).trans (World.alloc_heap_new w2 _))
            obtain ⟨p0, p1, p2, _, _, _⟩ := cells3 hp3.out
            have hI3 := Lib.hid (hI2 pre x _ wr w3 hI.out hg3 hc3)
            have hq3 := hq.out
            rw [hn'] at hq3
            obtain ⟨fn, tmps, assign, body, hy, hR⟩ := hY pre _ ⟨kd, x.i, ln⟩ w3 hI3.out ⟨by rw [XI]; omega, XT⟩ (XI).symm hq3
            have HQ3 := Lib.hid hq3
            clear hq3 hn' hc3 hg hg3
            dsimp only [PcV] at hy
            gi_wp2_with fail
            refine hR.mono ?_
            rintro e W5 (⟨rfl, hJ5⟩ | ⟨rfl, hJx5⟩)
            · have HC5 := Lib.hid (hI1 _ _ _ hJ5).1
              have HJ5 := Lib.hid hJ5
              clear hJ5
              gi_wp2_with fail
              go_roundw
              case rel => exact ⟨pre ++ [⟨kd, x.i, ln⟩], _, HJ5, by rw [XI]; omega, XT, Lib.hid (by rw [HQ3.out]; simp)⟩
              case measure => rw [leftOf_eq HC5.out, leftOf_eq HC.out]; have := XI; omega
            · gi_wp2_with fail
              refine bodyPost_ret (results_none rfl _ _ _) rfl ?_
              exact .inr (.inl ⟨_, _, (qFrom s.data.toList (qAfter s.data.toList x kd ln)).1, rfl, hJx5, by rw [HQ3.out]; simp⟩)
        · have hn' := HN.out (by omega)
          have XI : (qAfter s.data.toList x kd ln).i = x.i + ln := qAfter_i _ _ _ _
          have XT : (qAfter s.data.toList x kd ln).t ≤ 6000 := by unfold qAfter; rw [if_neg hk7]; exact ht
          have XE : Hid (qAfter s.data.toList x kd ln = ⟨x.i + ln, x.t, x.op⟩) := Lib.hid (if_neg hk7)
          gi_wp2_with fail
          refine ⟨trivial, (callsIn_wide.2 (take_skip s b x.i x.t ln kd x.op (by omega) hs (by omega) _ (HC2.out.alloc _))).mono ?_⟩
          rintro e w3 ⟨rfl, hc3, hg⟩
          have hc3 : CutB w3 b s (qAfter s.data.toList x kd ln).i (qAfter s.data.toList x kd ln).t (qAfter s.data.toList x kd ln).op := by rw [XE.out]; exact hc3
          have hg3 := ((grown_bl hb2' (some b)).trans (World.grownBy_alloc w2 _ _)).trans hg
          have hp3 : Hid (w3.heap[w2.heap.size]? = some (.cells #[.int .i64 kd, .int .i64 x.i, .int .i64 ln] 127 (0, 0))) := Lib.hid ((hg.block w2.heap.size (by simp) (fun e => by have := HC2.out.lt; cases e; omega)).trans (World.alloc_heap_new w2 _))
          obtain ⟨p0, p1, p2, _, _, _⟩ := cells3 hp3.out
          have hI3 := Lib.hid (hI2 pre x _ wr w3 hI.out hg3 hc3)
          have hq3 := hq.out
          rw [hn'] at hq3
          obtain ⟨fn, tmps, assign, body, hy, hR⟩ := hY pre _ ⟨kd, x.i, ln⟩ w3 hI3.out ⟨by rw [XI]; omega, XT⟩ (XI).symm hq3
          have HQ3 := Lib.hid hq3
          clear hq3 hn' hc3 hg hg3
          dsimp only [PcV] at hy
          gi_wp2_with fail
          refine hR.mono ?_
          rintro e W5 (⟨rfl, hJ5⟩ | ⟨rfl, hJx5⟩)
          · have HC5 := Lib.hid (hI1 _ _ _ hJ5).1
            have HJ5 := Lib.hid hJ5
            clear hJ5
            gi_wp2_with fail
            go_roundw
            case rel => exact ⟨pre ++ [⟨kd, x.i, ln⟩], _, HJ5, by rw [XI]; omega, XT, Lib.hid (by rw [HQ3.out]; simp)⟩
            case measure => rw [leftOf_eq HC5.out, leftOf_eq HC.out]; have := XI; omega
          · gi_wp2_with fail
            refine bodyPost_ret (results_none rfl _ _ _) rfl ?_
            exact .inr (.inl ⟨_, _, (qFrom s.data.toList (qAfter s.data.toList x kd ln)).1, rfl, hJx5, by rw [HQ3.out]; simp⟩)
      · have hend : endPiece (qNext s.data.toList x.i x.op) x.i = refusal (qNext s.data.toList x.i x.op).er x.i := if_neg her
        rw [hend]
        clear hend
        have HER := Lib.hid her
        clear her
        unfold refusal
        gi_wp2_with fail
        exact ⟨rfl, .inr (.inr ⟨pre, x, _, rfl, HER.out, hst.out _ hb2', by rw [hq.out, qFrom_err _ _ (by simpa using hlt) HER.out]; simp⟩)⟩
end Go.Proofs.YtopbmndjnjnmcaaGreatDoor

/- (A15) -/
/- Package lex: a law for the range over that iterator. -/
namespace Go.Proofs.YtopbmndjnjnmcaaGreatDoor
open Go.RowKit Lx

/-- How the body of a round may be left. -/
def bodyPostR (B : Nat) (I : List Pc → St → World → Prop) (Ix : Code → List Pc → St → World → Prop) (pre : List Pc) (x : St) (W : World) : Exit → Act → World → Prop
  | .normal, _, W' => KeepsFrom B W W' ∧ I pre x W'
  | .ret, _, W' => KeepsFrom B W W' ∧ Ix .ret pre x W'
  | .exit id, _, W' => KeepsFrom B W W' ∧ Ix (.exit id) pre x W'
  | .goto t, _, W' => KeepsFrom B W W' ∧ Ix (.goto t) pre x W'
  | .panic _, _, _ => False
  | .outgrown, _, _ => False

def StableI (B : Nat) (I : List Pc → St → World → Prop) : Prop := ∀ pre x, OwnFrom B (fun (_ : Unit) W => I pre x W)

theorem range_cut {g : Operand} {ps : Array Tmp} {assign body : Code} {Q : Exit → Act → World → Prop} {a : Act} {w : World}
    (s : ByteArray) (b : Nat) (hs : s.size ≤ 20000) (x0 : St) (hx0 : x0.i ≤ s.size) (ht0 : x0.t ≤ 6000)
    (hg : a.eval g = .func (.func 129) #[.pointer (some ⟨b, 0, none⟩)] #[]) (hps : ps.size = 1)
    (I : List Pc → St → World → Prop) (Ix : Code → List Pc → St → World → Prop)
    (hI1 : ∀ pre x W, I pre x W → CutB W b s x.i x.t x.op ∧ Env W)
    (hI2 : ∀ pre x x' W W', I pre x W → W.grownBy W' (some b) → CutB W' b s x'.i x'.t x'.op → I pre x' W')
    (hI : StableI w.heap.size I) (hIx : ∀ c, StableI w.heap.size (Ix c)) (h0 : I [] x0 w) (a₁ : Pc → Nat → Act)
    (hassign : ∀ (l : Nat) (p : Pc) (W : World) (K : Act → World → Prop), K (a₁ p W.heap.size) (W.alloc (.cells #[.int .i64 (p.kind : Int), .int .i64 (p.at_ : Int), .int .i64 (p.len : Int)] 127)) →
      assign.wpIn (Fence.wide.inRound l) 0 Tryz.prog (Exit.then K (fun _ _ _ => False)) { tmps := (ps.zip #[PcV p]).foldl (fun t (p, v) => t.setIfInBounds p v) a.tmps, defers := [] } W)
    (hbody : ∀ (l : Nat) (pre : List Pc) (x : St) (p : Pc) (pb : Nat) (W : World), I pre x W → W.heap[pb]? = some (.cells #[.int .i64 (p.kind : Int), .int .i64 (p.at_ : Int), .int .i64 (p.len : Int)] 127 (0, 0)) → w.heap.size ≤ pb →
      x.i ≤ s.size ∧ x.t ≤ 6000 → p.at_ + p.len = x.i → qFrom s.data.toList x0 = (pre ++ p :: (qFrom s.data.toList x).1, (qFrom s.data.toList x).2) →
      body.wpIn (Fence.wide.inRound l) 0 Tryz.prog (bodyPostR w.heap.size I Ix (pre ++ [p]) x W) (a₁ p pb) W)
    (hdone : ∀ (D : Nat) (pre : List Pc) (x : St) (W : World), w.heap.size ≤ D → I pre x W → qFrom s.data.toList x0 = (pre, none) → x.i = s.size → W.heap[D]? = some (.deferred (some [])) → Q .normal { a with defers := { target := .collected D, args := #[] } :: a.defers } W)
    (hstop : ∀ (D : Nat) (c : Code) (pre rest : List Pc) (x : St) (W : World), w.heap.size ≤ D → Ix c pre x W → (qFrom s.data.toList x0).1 = pre ++ rest → W.heap[D]? = some (.deferred (some [])) → c.wpIn Fence.wide 2 Tryz.prog Q { a with defers := { target := .collected D, args := #[] } :: a.defers } W)
    (hpanic : ∀ (D : Nat) (pre : List Pc) (x : St) (er : Nat) (W : World), w.heap.size ≤ D → I pre x W → er ≠ 0 → qFrom s.data.toList x0 = (pre, some (er, x.i)) → W.heap[D]? = some (.deferred (some [])) →
      Q (.panic [{ v := .iface 161 (.agg #[.int .i64 er, .int .i64 x.i]), recovered := false }]) { a with defers := { target := .collected D, args := #[] } :: a.defers } W) :
    (Code.rangeFunc g ps assign body).wpIn Fence.wide 2 Tryz.prog Q a w := by
  refine wpIn_rangeFunc ?_
  intro fn hfn
  obtain ⟨rec, hrec⟩ : ∃ rec : LoopState → Option Code → Loop, rec = fun st pe => { state := st, pending := pe, fn, tmps := a.tmps, params := ps, assign, body, defers := w.heap.size } := ⟨_, rfl⟩
  obtain ⟨W1, hW1⟩ : ∃ W1, (w.alloc (.deferred (some []))).alloc (.loop (rec .ready none)) = W1 := ⟨_, rfl⟩
  have hL1 : W1.heap[w.heap.size + 1]? = some (.loop (rec .ready none)) := by
    rw [← hW1]; have := World.alloc_heap_new (w.alloc (.deferred (some []))) (.loop (rec .ready none)); rwa [World.size_alloc] at this
  have hK1 : W1.heap[w.heap.size]? = some (.deferred (some [])) := by
    rw [← hW1]; exact (Below.heap_alloc _ _ _ (by simp)).trans (World.alloc_heap_new w _)
  have put : ∀ {J : List Pc → St → World → Prop}, StableI w.heap.size J → ∀ {pre x W} (k : Nat) (o o' : Obj), J pre x W → w.heap.size ≤ k → W.heap[k]? = some o → o.isCells = false → J pre x (W.putObj k o') :=
    fun {J} hJ {pre x W} k o o' h hk hl ho => (hJ pre x).putObj (s := ()) o' h hk hl ho
  have alc : ∀ {J : List Pc → St → World → Prop}, StableI w.heap.size J → ∀ {pre x W} (o : Obj), J pre x W → J pre x (W.alloc o) :=
    fun {J} hJ {pre x W} o h => (hJ pre x).alloc (s := ()) o h
  have hI1' : I [] x0 W1 := by rw [← hW1]; exact alc hI _ (alc hI _ h0)
  have lb : b < w.heap.size := (hI1 _ _ _ h0).1.lt
  refine ⟨w.heap.size + 1, [{ target := .collected w.heap.size, args := #[] }], W1, { target := .fn (.func 129) #[], args := #[.pointer (some ⟨b, 0, none⟩), .func (.yield (w.heap.size + 1)) #[] #[]] }, W1, 129,
    #[.pointer (some ⟨b, 0, none⟩), .func (.yield (w.heap.size + 1)) #[] #[]], W1, ?_, ?_, ?_, ?_, fun _ => by omega, ?_⟩
  · rw [← hW1, hrec]; exact run_enterLoop_outer _ _ _ _ _
  · simp only [resolve, hg]
    simp [go_sem]
  · intro f' _; trivial
  · simp [invoke, go_sem]
  · refine (pieces_iter s b hs x0 (w.heap.size + 1)
      (fun pre x W => I pre x W ∧ W.heap[w.heap.size + 1]? = some (.loop (rec .ready none)) ∧ W.heap[w.heap.size]? = some (.deferred (some [])))
      (fun pre x W => ∃ c, Ix c pre x W ∧ W.heap[w.heap.size + 1]? = some (.loop (rec .done (some c))) ∧ W.heap[w.heap.size]? = some (.deferred (some [])))
      (fun pre x W h => hI1 pre x W h.1)
      (fun pre x x' W W' h hg' hc => ⟨hI2 pre x x' W W' h.1 hg' hc, (hg'.block _ (Array.getElem?_eq_some_iff.1 h.2.1).1 (fun e => by cases e; omega)).trans h.2.1, (hg'.block _ (Array.getElem?_eq_some_iff.1 h.2.2).1 (fun e => by cases e; omega)).trans h.2.2⟩)
      ?_ W1 ⟨hI1', hL1, hK1⟩ hx0 ht0).mono ?_
    · rintro pre x p W ⟨hi, hl, hk⟩ hxi hpx hq
      have hlt : w.heap.size + 1 < W.heap.size := (Array.getElem?_eq_some_iff.1 hl).1
      have hy := run_yield (P := Tryz.prog) (args := #[PcV p]) hl (by rw [hrec]; exact hps.symm)
      rw [hrec] at hy
      obtain ⟨W2, hW2⟩ : ∃ W2, W.alloc (.cells #[.int .i64 (p.kind : Int), .int .i64 (p.at_ : Int), .int .i64 (p.len : Int)] 127) = W2 := ⟨_, rfl⟩
      have hlA : W2.heap[w.heap.size + 1]? = some (.loop (rec .ready none)) := by rw [← hW2]; exact (Below.heap_alloc _ _ _ hlt).trans hl
      have hkA : W2.heap[w.heap.size]? = some (.deferred (some [])) := by rw [← hW2]; exact (Below.heap_alloc _ _ _ (by omega)).trans hk
      have hpA : W2.heap[W.heap.size]? = some (.cells #[.int .i64 (p.kind : Int), .int .i64 (p.at_ : Int), .int .i64 (p.len : Int)] 127 (0, 0)) := by rw [← hW2]; exact World.alloc_heap_new W _
      have hiA : I pre x W2 := by rw [← hW2]; exact alc hI _ hi
      have hltA : w.heap.size + 1 < W2.heap.size := (Array.getElem?_eq_some_iff.1 hlA).1
      refine ⟨fn, _, assign, body, hy, roundIn_of_wpIn hfn (hassign _ p W _ ⟨_, run_beginRound (hW2 ▸ hlA) (by rw [hrec]), ?_⟩)⟩
      rw [hW2]
      have hl2 : (W2.putObj (w.heap.size + 1) (.loop { rec .ready none with state := .busy })).heap[w.heap.size + 1]? = some (.loop { rec .ready none with state := .busy }) := World.putObj_heap_same hltA
      have hk2 : (W2.putObj (w.heap.size + 1) (.loop { rec .ready none with state := .busy })).heap[w.heap.size]? = some (.deferred (some [])) := (World.putObj_heap_other (by omega)).trans hkA
      have hp2 : (W2.putObj (w.heap.size + 1) (.loop { rec .ready none with state := .busy })).heap[W.heap.size]? = some (.cells #[.int .i64 (p.kind : Int), .int .i64 (p.at_ : Int), .int .i64 (p.len : Int)] 127 (0, 0)) := (World.putObj_heap_other (by omega)).trans hpA
      refine wpIn_mono (hbody _ pre x p W.heap.size _ (put hI _ _ _ hiA (by omega) hlA rfl) hp2 (by omega) hxi hpx hq) ?_
      have fin : ∀ (jump : Option Code) (W3 : World), KeepsFrom w.heap.size (W2.putObj (w.heap.size + 1) (.loop { rec .ready none with state := .busy })) W3 →
          (Instr.endRound (w.heap.size + 1) jump).run Tryz.prog W3 = .ok (.bool jump.isNone) (W3.putObj (w.heap.size + 1) (.loop (rec (if jump.isNone then .ready else .done) jump))) ∧
          W3.heap[w.heap.size + 1]? = some (.loop { rec .ready none with state := .busy }) ∧
          (W3.putObj (w.heap.size + 1) (.loop (rec (if jump.isNone then .ready else .done) jump))).heap[w.heap.size + 1]? = some (.loop (rec (if jump.isNone then .ready else .done) jump)) ∧
          (W3.putObj (w.heap.size + 1) (.loop (rec (if jump.isNone then .ready else .done) jump))).heap[w.heap.size]? = some (.deferred (some [])) := fun jump W3 hk3 => by
        have hl3 := hk3.same _ _ (by omega) hl2 rfl
        have := run_endRound (P := Tryz.prog) jump hl3
        rw [hrec] at this ⊢
        exact ⟨this, by rw [hrec] at hl3; exact hl3, World.putObj_heap_same (Array.getElem?_eq_some_iff.1 hl3).1, (World.putObj_heap_other (by omega)).trans (hk3.same _ _ (Nat.le_refl _) hk2 rfl)⟩
      rintro e a3 W3 hp
      cases e with
      | normal =>
        obtain ⟨hk3, hi3⟩ := hp
        obtain ⟨hr, hl3, hl4, hk4⟩ := fin none W3 hk3
        exact ⟨_, _, hr, .inl ⟨rfl, put hI _ _ _ hi3 (by omega) hl3 rfl, hl4, hk4⟩⟩
      | ret =>
        obtain ⟨hk3, hi3⟩ := hp
        obtain ⟨hr, hl3, hl4, hk4⟩ := fin (some .ret) W3 hk3
        exact ⟨_, _, hr, .inr ⟨rfl, .ret, put (hIx _) _ _ _ hi3 (by omega) hl3 rfl, hl4, hk4⟩⟩
      | exit id =>
        obtain ⟨hk3, hi3⟩ := hp
        obtain ⟨hr, hl3, hl4, hk4⟩ := fin (some (.exit id)) W3 hk3
        exact ⟨_, _, hr, .inr ⟨rfl, .exit id, put (hIx _) _ _ _ hi3 (by omega) hl3 rfl, hl4, hk4⟩⟩
      | goto t =>
        obtain ⟨hk3, hi3⟩ := hp
        obtain ⟨hr, hl3, hl4, hk4⟩ := fin (some (.goto t)) W3 hk3
        exact ⟨_, _, hr, .inr ⟨rfl, .goto t, put (hIx _) _ _ _ hi3 (by omega) hl3 rfl, hl4, hk4⟩⟩
      | panic _ => exact hp.elim
      | outgrown => exact hp.elim
    · rintro e W3 (⟨pre, x, rfl, ⟨hi, hl, hk⟩, hq, hxe⟩ | ⟨pre, x, rest, rfl, ⟨c, hi, hl, hk⟩, hq⟩ | ⟨pre, x, er, rfl, her, ⟨hi, hl, hk⟩, hq⟩)
      · exact ⟨none, _, by have := run_endLoop (P := Tryz.prog) hl (by rw [hrec]; simp); rw [hrec] at this; exact this, hdone _ pre x _ (Nat.le_refl _) (put hI _ _ _ hi (by omega) hl rfl) hq hxe ((World.putObj_heap_other (by omega)).trans hk)⟩
      · exact ⟨some c, _, by have := run_endLoop (P := Tryz.prog) hl (by rw [hrec]; simp); rw [hrec] at this; exact this, hstop _ c pre rest x _ (Nat.le_refl _) (put (hIx _) _ _ _ hi (by omega) hl rfl) hq ((World.putObj_heap_other (by omega)).trans hk)⟩
      · exact hpanic _ pre x er W3 (Nat.le_refl _) hi her hq hk

/-- The frame of a round whose variable lies in a block. -/
def rnd (a : Act) (i slot : Nat) (p : Pc) (pb : Nat) : Act := { tmps := (a.tmps.setIfInBounds i (PcV p)).setIfInBounds slot (.pointer (some ⟨pb, 0, none⟩)), defers := [] }

theorem fold_one (t : Array Value) (i : Tmp) (u : Value) : (#[i].zip #[u]).foldl (fun t (p, v) => t.setIfInBounds p v) t = t.setIfInBounds i u := by simp

/-- The law, with the frame that it leaves reckoned. -/
theorem range_cut_slot {g : Operand} {i : Tmp} {assign body : Code} {Q : Exit → Act → World → Prop} {a : Act} {w : World} (slot : Nat)
    (s : ByteArray) (b : Nat) (hs : s.size ≤ 20000) (x0 : St) (hx0 : x0.i ≤ s.size) (ht0 : x0.t ≤ 6000)
    (hg : a.eval g = .func (.func 129) #[.pointer (some ⟨b, 0, none⟩)] #[])
    (I : List Pc → St → World → Prop) (Ix : Code → List Pc → St → World → Prop)
    (hI1 : ∀ pre x W, I pre x W → CutB W b s x.i x.t x.op ∧ Env W)
    (hI2 : ∀ pre x x' W W', I pre x W → W.grownBy W' (some b) → CutB W' b s x'.i x'.t x'.op → I pre x' W')
    (hI : StableI w.heap.size I) (hIx : ∀ c, StableI w.heap.size (Ix c)) (h0 : I [] x0 w)
    (hassign : ∀ (l : Nat) (p : Pc) (W : World) (K : Act → World → Prop), K (rnd a i slot p W.heap.size) (W.alloc (.cells #[.int .i64 (p.kind : Int), .int .i64 (p.at_ : Int), .int .i64 (p.len : Int)] 127)) →
      assign.wpIn (Fence.wide.inRound l) 0 Tryz.prog (Exit.then K (fun _ _ _ => False)) { tmps := a.tmps.setIfInBounds i (PcV p), defers := [] } W)
    (hbody : ∀ (l : Nat) (pre : List Pc) (x : St) (p : Pc) (pb : Nat) (W : World), I pre x W → W.heap[pb]? = some (.cells #[.int .i64 (p.kind : Int), .int .i64 (p.at_ : Int), .int .i64 (p.len : Int)] 127 (0, 0)) → w.heap.size ≤ pb →
      x.i ≤ s.size ∧ x.t ≤ 6000 → p.at_ + p.len = x.i → qFrom s.data.toList x0 = (pre ++ p :: (qFrom s.data.toList x).1, (qFrom s.data.toList x).2) →
      body.wpIn (Fence.wide.inRound l) 0 Tryz.prog (bodyPostR w.heap.size I Ix (pre ++ [p]) x W) (rnd a i slot p pb) W)
    (hdone : ∀ (D : Nat) (pre : List Pc) (x : St) (W : World), w.heap.size ≤ D → I pre x W → qFrom s.data.toList x0 = (pre, none) → x.i = s.size → W.heap[D]? = some (.deferred (some [])) → Q .normal { a with defers := { target := .collected D, args := #[] } :: a.defers } W)
    (hstop : ∀ (D : Nat) (c : Code) (pre rest : List Pc) (x : St) (W : World), w.heap.size ≤ D → Ix c pre x W → (qFrom s.data.toList x0).1 = pre ++ rest → W.heap[D]? = some (.deferred (some [])) → c.wpIn Fence.wide 2 Tryz.prog Q { a with defers := { target := .collected D, args := #[] } :: a.defers } W)
    (hpanic : ∀ (D : Nat) (pre : List Pc) (x : St) (er : Nat) (W : World), w.heap.size ≤ D → I pre x W → er ≠ 0 → qFrom s.data.toList x0 = (pre, some (er, x.i)) → W.heap[D]? = some (.deferred (some [])) →
      Q (.panic [{ v := .iface 161 (.agg #[.int .i64 er, .int .i64 x.i]), recovered := false }]) { a with defers := { target := .collected D, args := #[] } :: a.defers } W) :
    (Code.rangeFunc g #[i] assign body).wpIn Fence.wide 2 Tryz.prog Q a w :=
  range_cut s b hs x0 hx0 ht0 hg rfl I Ix hI1 hI2 hI hIx h0 (fun p pb => rnd a i slot p pb) (fun l p W K h => (fold_one a.tmps i (PcV p)) ▸ hassign l p W K h) hbody hdone hstop hpanic
end Go.Proofs.YtopbmndjnjnmcaaGreatDoor

/- (A16) -/
/- Package lex: newCutter and the deferred function of Pieces. -/
namespace Go.Proofs.YtopbmndjnjnmcaaGreatDoor
open Go.RowKit Lx

attribute [local go_sem] Oper.semAt_some

theorem newCutter_ok (s : ByteArray) (hs : s.size ≤ 20000) (w : World) :
    Calls Tryz.prog 128 #[.string s] w fun e w' => e = .returned (.pointer (some ⟨w.heap.size, 0, none⟩)) ∧ w' = w.alloc (.cells #[.string s, .int .i64 0, .int .i64 0, .bool false] 179) := by
  go_enter Tryz.func128, Tryz.ntmps128
  go_wp2
  go_ret
  exact ⟨rfl, rfl⟩

theorem newCutter_bad (s : ByteArray) (hs : 20000 < s.size) (hm : s.size ≤ maxLen) (w : World) :
    Calls Tryz.prog 128 #[.string s] w fun e w' => e = refusal 2 0 ∧ Below w.heap.size w w' := by
  unfold maxLen at hm
  have hb := (Below.refl w.heap.size w).alloc (Nat.le_refl _) (.cells #[.string s, .int .i64 0, .int .i64 0, .bool false] 179)
  have hc : CutB (w.alloc (.cells #[.string s, .int .i64 0, .int .i64 0, .bool false] 179)) w.heap.size s 0 0 false := World.alloc_heap_new w _
  have HC := Lib.hid hc.cut
  clear hc
  go_enter Tryz.func128, Tryz.ntmps128
  go_wp2_with fail
  refine (refuse_any s w.heap.size 0 0 false _ _ HC.out).mono ?_
  rintro e w' ⟨rfl, rfl⟩
  go_wp2_with fail
  exact ⟨rfl, rfl, hb⟩

theorem assert_yes (a b : Value) (w : World) : (Instr.typeAssert (.iface 161 (.agg #[a, b])) 20 161 true).run Tryz.prog w = .ok (.tuple #[.agg #[a, b], .bool true]) w := by kernel_rfl
theorem assert_no (w : World) : (Instr.typeAssert .nilIface 20 161 true).run Tryz.prog w = .ok (.tuple #[.agg #[.int .i64 0, .int .i64 0], .bool false]) w := by kernel_rfl

/-- What the deferred function has done with a refusal. -/
def Caught (B1 B2 B3 er i : Nat) (w : World) (e : Ending) (u' : FrameMode) (w' : World) : Prop :=
  e = .returned (.tuple #[]) ∧ u' = .panicking [{ v := .iface 161 (.agg #[.int .i64 er, .int .i64 i]), recovered := true }] ∧ Boxed w' B1 122 (.slice none 0 0) ∧ Boxed w' B2 3 (.int .i64 i) ∧ Boxed w' B3 24 (.int .i64 er) ∧ (∀ B, B ≤ w.heap.size → B ≤ B1 → B ≤ B2 → B ≤ B3 → Below B w w')

end Go.Proofs.YtopbmndjnjnmcaaGreatDoor

/- (A17) -/
/- Package lex: Pieces of a text that is not too long. -/
namespace Go.Proofs.YtopbmndjnjnmcaaGreatDoor
open Go.RowKit Lx

attribute [local go_sem] Oper.semAt_some

theorem info33 : (Tryz.prog.info? 127).map (fun i => (i.zero, i.size, i.bytes)) = some (some (.agg #[.int .i64 0, .int .i64 0, .int .i64 0]), 3, 24) := by kernel_rfl

/-- The cells of pieces. -/
def pcCells (p : Pc) : List Value := [.int .i64 (p.kind : Int), .int .i64 (p.at_ : Int), .int .i64 (p.len : Int)]
def pcsCells : List Pc → List Value
  | [] => []
  | p :: r => pcCells p ++ pcsCells r
theorem pcsCells_app (a b : List Pc) : pcsCells (a ++ b) = pcsCells a ++ pcsCells b := by
  induction a with
  | nil => rfl
  | cons p r ih => simp [pcsCells, ih]
theorem pcsCells_len (a : List Pc) : (pcsCells a).length = a.length * 3 := by
  induction a with
  | nil => rfl
  | cons p r ih => simp [pcsCells, pcCells, ih]; omega

theorem qCutAll_length (l : Bs) (n : Nat) : ∀ x : St, (qCutAll l n x).1.length ≤ l.length - x.i := by
  induction n with
  | zero => intro x; simp [qCutAll]
  | succ n ih =>
    intro x
    simp only [qCutAll]
    split
    · simp
    · split
      · simp
      · split
        · simp
        · rename_i a1 a2 a3
          have hl := qNext_len l x.i x.op (by omega) (by simpa using a2)
          have := ih (qAfter l x (qNext l x.i x.op).kind (qNext l x.i x.op).len)
          rw [qAfter_i] at this
          simp only [List.length_cons]; omega
theorem qFrom_length (l : Bs) (x : St) : (qFrom l x).1.length ≤ l.length := by
  have := qCutAll_length l (l.length - x.i + 1) x
  unfold qFrom; omega

/-- What Pieces holds between two rounds. -/
def PI (w : World) (s : ByteArray) (pre : List Pc) (x : St) (W : World) : Prop :=
  CutB W (w.heap.size + 3) s x.i x.t x.op ∧ Env W ∧ (∃ v, Boxed W w.heap.size 122 v ∧ W.ownsRow w.heap.size 127 3 v pre.length (pcsCells pre) ∧ (v = .slice none 0 0 ↔ pre = [])) ∧
  Boxed W (w.heap.size + 1) 3 (.int .i64 0) ∧ Boxed W (w.heap.size + 2) 24 (.int .i64 0) ∧ Below w.heap.size w W

theorem row_cells {W : World} {base e size k : Nat} {v : Value} {xs : List Value} (h : W.ownsRow base e size v k xs) {b : Nat} {o : Obj} (hb : W.heap[b]? = some o) (hne : ∀ cs fr, o ≠ .cells cs e fr) : v.ownBlock = none ∨ v.ownBlock ≠ some b := by
  rcases h.2 with ⟨rfl, _⟩ | ⟨g, cap, cur, rfl, _, hgb, _⟩
  · exact .inl rfl
  · refine .inr fun e' => ?_
    obtain rfl : g = b := by simpa [Value.ownBlock] using e'
    rw [hb] at hgb; cases hgb; exact hne _ _ rfl

theorem PI.take {w : World} {s : ByteArray} (h6 : 6 ≤ w.heap.size) {pre : List Pc} {x x' : St} {W W' : World} (h : PI w s pre x W) (hg : W.grownBy W' (some (w.heap.size + 3))) (hc : CutB W' (w.heap.size + 3) s x'.i x'.t x'.op) : PI w s pre x' W' := by
  obtain ⟨h1, h2, ⟨v, hv, hr, hn⟩, h4, h5, hb⟩ := h
  refine ⟨hc, h2.kept (by omega) hg, ⟨v, hv.kept hg (by simp), hr.kept hg (row_cells hr h1 (by simp)), hn⟩, h4.kept hg (by simp), h5.kept hg (by simp), hb.grown hg hb.size (fun k e => by cases e; omega)⟩

theorem PI.stable {w : World} {s : ByteArray} {B : Nat} (h6w : 6 ≤ w.heap.size) (hB : w.heap.size + 4 ≤ B) : StableI B (PI w s) := by
  rintro pre x _ W W' row ⟨h1, h2, ⟨v, hv, hr, hn⟩, h4, h5, hb⟩ hg hrow
  have hne : ∀ b, b < B → some b ≠ row := fun b hb e => by have := (hrow b e.symm).1; omega
  refine ⟨h1.kept hg (hne _ (by omega)), ?_, ⟨v, hv.kept hg (hne _ (by omega)), hr.kept hg ?_, hn⟩, h4.kept hg (hne _ (by omega)), h5.kept hg (hne _ (by omega)), hb.grown hg hb.size (fun k e => by have := (hrow k e).1; omega)⟩
  · cases row with
    | none => exact h2.below ⟨hg.os, hg.tape, hg.output, hg.size, fun k hk => hg.block k hk (by simp)⟩
    | some b =>
      by_cases h6 : 6 ≤ b
      · exact h2.kept h6 hg
      · have := (hrow b rfl).1; omega
  · cases row with
    | none =>
      rcases hr.2 with ⟨rfl, _⟩ | ⟨g, cap, cur, rfl, _⟩
      · exact .inl rfl
      · exact .inr (by simp [Value.ownBlock])
    | some b =>
      obtain ⟨_, o, ho, hcl⟩ := hrow b rfl
      exact row_cells hr ho (fun cs fr e => by subst e; cases hcl)

theorem Env.low {w w' : World} (h : Env w) (hb : Below 6 w w') : Env w' := by
  have hs := h.size
  obtain ⟨m, hm⟩ := h.max
  obtain ⟨t2, p2, h2⟩ := h.syn
  obtain ⟨t3, p3, h3⟩ := h.rng
  exact ⟨⟨m, (hb.cell (p := ⟨0, 0, none⟩) (by show 0 < _; omega)).trans hm⟩, ⟨t2, p2, (hb.cell (p := ⟨1, 0, none⟩) (by show 1 < _; omega)).trans h2⟩, ⟨t3, p3, (hb.cell (p := ⟨2, 0, none⟩) (by show 2 < _; omega)).trans h3⟩,
    var?_below hb pow10_global (by omega) h.tab, Nat.le_trans hs hb.size⟩

theorem cells_three_new (w : World) (a b c : Value) (t : TypeId) : ∀ j u, [a, b, c][j]? = some u → (w.alloc (.cells #[a, b, c] t)).cell? ((⟨w.heap.size, 0, none⟩ : Addr).add j) = some u := by
  intro j u h
  have hn := World.alloc_heap_new w (.cells #[a, b, c] t)
  match j, h with
  | 0, h => simp at h; subst h; exact (cells3 hn).1
  | 1, h => simp at h; subst h; exact (cells3 hn).2.1
  | 2, h => simp at h; subst h; exact (cells3 hn).2.2.1
  | n + 3, h => simp at h

/-- The append of Pieces keeps what Pieces holds. -/
theorem PI.more {w : World} {s : ByteArray} (h6 : 6 ≤ w.heap.size) {pre : List Pc} {x : St} {p : Pc} {W w1 : World} {v v' : Value} {tmp : Obj} {ys : List Value}
    (h1 : Hid (CutB W (w.heap.size + 3) s x.i x.t x.op)) (h2 : Hid (Env W)) (hv : Boxed W w.heap.size 122 v) (hr : W.ownsRow w.heap.size 127 3 v pre.length (pcsCells pre)) (h4 : Boxed W (w.heap.size + 1) 3 (.int .i64 0)) (h5 : Boxed W (w.heap.size + 2) 24 (.int .i64 0)) (hb : Below w.heap.size w W)
    (hown' : w1.ownsRow w.heap.size 127 3 v' (pre.length + 1) ys) (hys : ys = pcsCells pre ++ pcCells p) (hgrow : (W.alloc tmp).grownBy w1 v.ownBlock) :
    KeepsFrom (w.heap.size + 4) W (w1.setCell ⟨w.heap.size, 0, none⟩ v') ∧ PI w s (pre ++ [p]) x (w1.setCell ⟨w.heap.size, 0, none⟩ v') := by
  obtain ⟨hv1, hv2, hr2, hk2, hb2⟩ := hv.appended (by decide) hr hb.size (Nat.le_refl _) hown' hgrow
  obtain ⟨g', cap', hv'⟩ := ownsRow_succ hown'
  have hne : some (w.heap.size + 3) ≠ v.ownBlock := fun e => by
    rcases row_cells hr h1.out (by simp) with h | h
    · rw [h] at e; cases e
    · exact h e.symm
  refine ⟨hk2.from _, ((h1.out.alloc tmp).kept hgrow hne).kept (grown_set w1 w.heap.size 0 _) (by simp), h2.out.low (hb2.mono h6), ⟨v', hv2, ?_, by rw [hv']; simp⟩,
    ((h4.alloc tmp).kept hgrow (h4.not_row (by decide) hr)).other (by simp) _, ((h5.alloc tmp).kept hgrow (h5.not_row (by decide) hr)).other (by simp) _, hb.trans hb2⟩
  rw [pcsCells_app, List.length_append]
  subst hys
  simpa [pcsCells] using hr2

theorem ownsRow_slice {W : World} {base e size k : Nat} {v : Value} {xs : List Value} (h : W.ownsRow base e size v k xs) : ∃ a n c, v = .slice a n c := by
  rcases h.2 with ⟨rfl, _⟩ | ⟨g, cap, cur, rfl, _⟩ <;> exact ⟨_, _, _, rfl⟩

/-- How Pieces ends. -/
def PiecesEnd (l : Bs) (base : Nat) (e : Ending) (W : World) : Prop :=
  ∃ v, e = .returned (.tuple #[v, .int .i64 ((((qPieces l).2.map Prod.snd).getD 0 : Nat) : Int), .int .i64 ((((qPieces l).2.map Prod.fst).getD 0 : Nat) : Int)]) ∧
    ((qPieces l).2 = none → W.ownsRow base 127 3 v (qPieces l).1.length (pcsCells (qPieces l).1) ∧ (v = .slice none 0 0 ↔ (qPieces l).1 = [])) ∧
    ((qPieces l).2 ≠ none → v = .slice none 0 0)

theorem Boxed.bl {W W' : World} {B : Nat} {t : TypeId} {v : Value} (h : Boxed W B t v) (hb : Below W.heap.size W W') : Boxed W' B t v := h.kept (grown_bl hb none) (by simp)
theorem Boxed.put {W : World} {B : Nat} {t : TypeId} {v : Value} (h : Boxed W B t v) {D : Nat} (o : Obj) (hne : B ≠ D) : Boxed (W.putObj D o) B t v := h.kept (grownBy_putObj' W D o) (by simpa using hne)
theorem owns_bl {W W' : World} {base e size k : Nat} {v : Value} {xs : List Value} (h : W.ownsRow base e size v k xs) (hb : Below W.heap.size W W') : W'.ownsRow base e size v k xs := by
  refine h.kept (grown_bl hb none) ?_
  cases v.ownBlock with
  | none => exact .inl rfl
  | some g => exact .inr (by simp)
theorem owns_set {W : World} {base e size k : Nat} {v : Value} {xs : List Value} (h : W.ownsRow base e size v k xs) {B : Nat} {t : TypeId} {u : Value} (hB : Boxed W B t u) (hte : t ≠ e) (u' : Value) : (W.setCell ⟨B, 0, none⟩ u').ownsRow base e size v k xs :=
  h.kept (grownBy_setCell' W B u') (.inr (hB.not_row hte h).symm)

end Go.Proofs.YtopbmndjnjnmcaaGreatDoor

/- (A18) -/
/- Package lex: Pieces of any text. -/
namespace Go.Proofs.YtopbmndjnjnmcaaGreatDoor
open Go.RowKit Lx

attribute [local go_sem] Oper.semAt_some

end Go.Proofs.YtopbmndjnjnmcaaGreatDoor

/- (A19) -/
/- Package lex: value, and pieces that follow each other. -/
namespace Go.Proofs.YtopbmndjnjnmcaaGreatDoor
open Go.RowKit Lx

attribute [local go_sem] Oper.semAt_some

theorem qB_kind (l : Bs) (op : Bool) (k : Nat) : (qB l op k).2 = 0 ∨ 1 ≤ (qB l op k).1 := by
  induction k with
  | zero => exact .inl rfl
  | succ k ih =>
    simp only [qB, qBetter]
    split
    · exact .inr (by simp)
    · exact ih

theorem qNext_kind (l : Bs) (i : Nat) (op : Bool) (hi : i < l.length) (h : (qNext l i op).er = 0) : 1 ≤ (qNext l i op).kind := by
  have hl := (qNext_len l i op hi h).1
  have hk := qB_kind ((l.drop i).take 100) op 6
  rw [qB_6] at hk
  unfold qNext at hl h ⊢
  split
  · rename_i hc; rw [if_pos hc] at h; exact absurd h hc
  · split
    · simp
    · split
      · simp
      · split
        · rename_i a1 a2 a3 a4; rw [if_neg a1, if_neg a2, if_neg a3, if_pos a4] at h; exact absurd h a4
        · rename_i a1 a2 a3 a4
          rw [if_neg a1, if_neg a2, if_neg a3, if_neg a4] at hl
          simp only at hl ⊢
          rcases hk with hk | hk
          · omega
          · exact hk

/-- Pieces that follow each other from an offset on. -/
def Follow (m : Nat) : Nat → List Pc → Prop
  | _, [] => True
  | a, p :: r => p.at_ = a ∧ 1 ≤ p.len ∧ a + p.len ≤ m ∧ 1 ≤ p.kind ∧ p.kind ≤ 8 ∧ Follow m (a + p.len) r
/-- Where they end. -/
def endAt : Nat → List Pc → Nat
  | a, [] => a
  | a, p :: r => endAt (a + p.len) r

theorem qCutAll_follow (l : Bs) (n : Nat) : ∀ x : St, l.length - x.i < n → x.i ≤ l.length → Follow l.length x.i (qCutAll l n x).1 ∧ ((qCutAll l n x).2 = none → endAt x.i (qCutAll l n x).1 = l.length) := by
  induction n with
  | zero => intro x h; omega
  | succ n ih =>
    intro x h hx
    simp only [qCutAll]
    split
    · exact ⟨trivial, fun _ => by simp only [endAt]; omega⟩
    · split
      · exact ⟨trivial, fun h => (by cases h)⟩
      · split
        · exact ⟨trivial, fun h => (by cases h)⟩
        · rename_i a1 a2 a3
          have hl := qNext_len l x.i x.op (by omega) (by simpa using a2)
          have hk := qNext_kind l x.i x.op (by omega) (by simpa using a2)
          have := ih (qAfter l x (qNext l x.i x.op).kind (qNext l x.i x.op).len) (by rw [qAfter_i]; omega) (by rw [qAfter_i]; omega)
          rw [qAfter_i] at this
          exact ⟨⟨rfl, hl.1, hl.2.1, hk, hl.2.2, this.1⟩, this.2⟩

theorem qPieces_follow (l : Bs) : Follow l.length 0 (qPieces l).1 ∧ ((qPieces l).2 = none → endAt 0 (qPieces l).1 = l.length) := by
  unfold qPieces; split
  · exact ⟨trivial, fun h => (by cases h)⟩
  · exact qCutAll_follow l _ ⟨0, 0, false⟩ (by simp) (by simp)

theorem Follow.get {m : Nat} : ∀ {ps : List Pc} {a : Nat}, Follow m a ps → ∀ {k : Nat} {p : Pc}, ps[k]? = some p → 1 ≤ p.len ∧ p.at_ + p.len ≤ m ∧ 1 ≤ p.kind ∧ p.kind ≤ 8
  | [], _, _, k, p, h => by simp at h
  | q :: r, a, ⟨h1, h2, h3, h4, h5, h6⟩, 0, p, h => by
    simp at h; subst h; exact ⟨h2, by omega, h4, h5⟩
  | q :: r, a, ⟨h1, h2, h3, h4, h5, h6⟩, k + 1, p, h => h6.get (by simpa using h)

theorem qPieces_big (l : Bs) (h : 20000 < l.length) : qPieces l = ([], some (2, 0)) := if_pos h
theorem qPieces_small (l : Bs) (h : (qPieces l).2 = none) : l.length ≤ 20000 := by
  by_cases h' : 20000 < l.length
  · rw [qPieces_big l h'] at h; cases h
  · omega
theorem qPieces_length (l : Bs) : (qPieces l).1.length ≤ 20000 := by
  by_cases h : 20000 < l.length
  · rw [qPieces_big l h]; simp
  · unfold qPieces; rw [if_neg h]
    have := qFrom_length l ⟨0, 0, false⟩; omega

theorem pcsCells_at : ∀ (ps : List Pc) (k : Nat) (p : Pc) (j : Nat), ps[k]? = some p → j < 3 → (pcsCells ps)[k * 3 + j]? = (pcCells p)[j]?
  | [], k, p, j, h, _ => by simp at h
  | q :: r, 0, p, j, h, hj => by
    simp at h; subst h
    simp only [pcsCells, Nat.zero_mul, Nat.zero_add]
    rw [List.getElem?_append_left (by simp [pcCells]; omega)]
  | q :: r, k + 1, p, j, h, hj => by
    simp only [pcsCells]
    rw [List.getElem?_append_right (by simp [pcCells]; omega)]
    have : (k + 1) * 3 + j - (pcCells q).length = k * 3 + j := by simp [pcCells]; omega
    rw [this]
    exact pcsCells_at r k p j (by simpa using h) hj

/-- The cells of a piece in a row of pieces. -/
theorem owns_pc {W : World} {base g n cap : Nat} {ps : List Pc} {k : Nat} {p : Pc} (h : W.ownsRow base 127 3 (.slice (some ⟨g, 0, none⟩) n cap) n (pcsCells ps)) (hk : ps[k]? = some p) :
    W.cell? ⟨g, k * 3, none⟩ = some (.int .i64 p.kind) ∧ W.cell? ⟨g, k * 3 + 1, none⟩ = some (.int .i64 p.at_) ∧ W.cell? ⟨g, k * 3 + 2, none⟩ = some (.int .i64 p.len) := by
  have hl := h.1
  rw [pcsCells_len] at hl
  have hlt : k < ps.length := by
    rcases Nat.lt_or_ge k ps.length with h' | h'
    · exact h'
    · rw [List.getElem?_eq_none h'] at hk; cases hk
  refine ⟨?_, ?_, ?_⟩
  · rw [h.cellAt _ (by omega)]; exact (pcsCells_at ps k p 0 hk (by omega))
  · rw [h.cellAt _ (by omega)]; exact (pcsCells_at ps k p 1 hk (by omega))
  · rw [h.cellAt _ (by omega)]; exact (pcsCells_at ps k p 2 hk (by omega))

/-- The first result of Atoi. -/
def qNum (l : Bs) : Int := match Lib.atoiAll l with | .ok v => v | .range => Lib.atoiSat l | _ => 0
def qValue (k : Nat) (l : Bs) : Int := if k = 2 then qNum l else 0

/-- **strconv.Atoi**, and what it returns besides. -/
theorem atoi_num (s : ByteArray) (hs : s.size ≤ 20000) (w : World) (he : Env w) :
    Calls Tryz.prog 130 #[.string s] w fun e w' => Below w.heap.size w w' ∧ ∃ x : Value, e = .returned (.tuple #[.int .i64 (qNum s.data.toList), x]) := by
  unfold qNum
  cases h : Lib.atoiAll s.data.toList with
  | ok v =>
    refine (Tryz.strconv_Atoi_ok s (by omega) v h w).mono ?_
    rintro e w' ⟨rfl, hw⟩
    refine ⟨?_, _, rfl⟩
    rcases hw with rfl | ⟨t, rfl⟩
    · exact Below.refl _ _
    · exact Lib.bytesWorld_below _ _ _
  | range =>
    obtain ⟨te, pe, hv⟩ := he.rng
    refine (Tryz.strconv_Atoi_range s (by omega) h _ w hv (.inr ⟨te, pe, rfl⟩)).mono ?_
    rintro e w' ⟨N, rfl, _, _, hb⟩
    exact ⟨hb, _, rfl⟩
  | _ =>
    obtain ⟨te, pe, hv⟩ := he.syn
    refine (Any.strconv_Atoi_syntax Tryz.laysC172 s (by omega) h _ w hv (.inr ⟨te, pe, rfl⟩)).mono ?_
    rintro e w' ⟨N, rfl, _, _, hb⟩
    exact ⟨hb, _, rfl⟩

set_option maxHeartbeats 1000000 in
/-- **value** -/
theorem value_any (k : Nat) (s : ByteArray) (hs : k = 2 → s.size ≤ 20000) (w : World) (he : Env w) :
    Calls Tryz.prog 111 #[.int .i64 k, .string s] w fun e w' => e = .returned (.int .i64 (qValue k s.data.toList)) ∧ Below w.heap.size w w' := by
  have HE := Lib.hid he
  clear he
  by_cases hk : k = 2
  · subst hk
    have hs' := hs rfl
    go_enter Tryz.func111, Tryz.ntmps111
    go_wp2_with fail
    refine (atoi_num s hs' _ HE.out).mono ?_
    rintro e w1 ⟨hb, x, rfl⟩
    go_wp2_with fail
    go_ret
    exact ⟨rfl, hb⟩
  · have hk' : ((k : Int) == 2) = false := by simp; omega
    have hv : qValue k s.data.toList = 0 := if_neg hk
    go_enter Tryz.func111, Tryz.ntmps111
    go_wp2_with fail
    go_ret
    exact ⟨by rw [hv]; rfl, Below.refl _ _⟩
end Go.Proofs.YtopbmndjnjnmcaaGreatDoor

/- (A20) -/
/- Package lex: Scan. -/
namespace Go.Proofs.YtopbmndjnjnmcaaGreatDoor
open Go.RowKit Lx

attribute [local go_sem] Oper.semAt_some
attribute [local go_sem ↓] Go.wp_at_zero Go.wp_at_succ

theorem info39 : (Tryz.prog.info? 50).map (fun i => (i.zero, i.size, i.bytes)) = some (some (.agg #[.int .i64 0, .int .i64 0, .string ⟨#[]⟩, .int .i64 0, .int .i64 0]), 5, 48) := by kernel_rfl

/-- The text of a piece. -/
def pcText (s : ByteArray) (p : Pc) : ByteArray := s.extract p.at_ (p.at_ + p.len)
def tkCells (s : ByteArray) (p : Pc) : List Value := [.int .i64 (p.kind : Int), .int .i64 (qValue p.kind ((s.data.toList.drop p.at_).take p.len)), .string (pcText s p), .int .i64 (p.at_ : Int), .int .i64 0]
def tksCells (s : ByteArray) : List Pc → List Value
  | [] => []
  | p :: r => tkCells s p ++ tksCells s r
theorem tksCells_app (s : ByteArray) (a b : List Pc) : tksCells s (a ++ b) = tksCells s a ++ tksCells s b := by
  induction a with
  | nil => rfl
  | cons p r ih => simp [tksCells, ih]
theorem tksCells_len (s : ByteArray) (a : List Pc) : (tksCells s a).length = a.length * 5 := by
  induction a with
  | nil => rfl
  | cons p r ih => simp [tksCells, tkCells, ih]; omega

def isTok (p : Pc) : Bool := decide (p.kind < 7)
/-- The pieces that Pieces returns. -/
def qGood (l : Bs) : List Pc := if (qPieces l).2 = none then (qPieces l).1 else []
/-- The pieces that are tokens. -/
def qScan (l : Bs) : List Pc := (qGood l).filter isTok
def qErr (l : Bs) : Nat := ((qPieces l).2.map Prod.fst).getD 0
def qErrAt (l : Bs) : Nat := ((qPieces l).2.map Prod.snd).getD 0

theorem qGood_follow (l : Bs) : Follow l.length 0 (qGood l) := by
  unfold qGood; split
  · exact (qPieces_follow l).1
  · trivial
theorem qGood_length (l : Bs) : (qGood l).length ≤ 20000 := by
  unfold qGood; split
  · exact qPieces_length l
  · simp
theorem qGood_small (l : Bs) (k : Nat) (p : Pc) (h : (qGood l)[k]? = some p) : l.length ≤ 20000 := by
  unfold qGood at h; split at h
  · rename_i h1; exact qPieces_small l h1
  · simp at h

theorem filter_take_succ (ps : List Pc) (k : Nat) (p : Pc) (h : ps[k]? = some p) : (ps.take (k + 1)).filter isTok = (ps.take k).filter isTok ++ (if isTok p = true then [p] else []) := by
  rw [List.take_add_one, h, List.filter_append]
  congr 1
  cases h' : isTok p <;> simp [h']

theorem Env.any {w w' : World} (h : Env w) {B : Nat} (hB : B = w.heap.size) (hb : Below B w w') : Env w' := by subst hB; exact h.below hb

/-- What Scan holds between two rounds. -/
def SI (s : ByteArray) (B : Nat) (w : World) (pv : Value) (ps : List Pc) (k : Nat) (v : Value) (W : World) : Prop :=
  W.ownsRow B 127 3 pv ps.length (pcsCells ps) ∧ W.ownsRow B 50 5 v ((ps.take k).filter isTok).length (tksCells s ((ps.take k).filter isTok)) ∧ (v = .slice none 0 0 ↔ (ps.take k).filter isTok = []) ∧ Env W ∧ Below B w W

theorem rows_apart {W : World} {b1 b2 e1 e2 s1 s2 n1 n2 : Nat} {v1 v2 : Value} {x1 x2 : List Value} (h1 : W.ownsRow b1 e1 s1 v1 n1 x1) (h2 : W.ownsRow b2 e2 s2 v2 n2 x2) (hne : e1 ≠ e2) : v1.ownBlock = none ∨ v1.ownBlock ≠ v2.ownBlock := by
  rcases h2.2 with ⟨rfl, _⟩ | ⟨g, cap, cur, rfl, _, hg, _⟩
  · cases v1.ownBlock with
    | none => exact .inl rfl
    | some g => exact .inr (by simp [Value.ownBlock])
  · rcases row_cells h1 hg (fun cs fr e => by cases e; exact hne rfl) with h | h
    · exact .inl h
    · exact .inr (by simpa [Value.ownBlock] using h)

theorem Below.heap_alloc_cell (w : World) (o : Obj) (a : Addr) (h : a.block < w.heap.size) : (w.alloc o).cell? a = w.cell? a := ((Below.refl w.heap.size w).alloc (Nat.le_refl _) o).cell h

theorem held_keep {N : Nat} {w9 w10 : World} {o : Obj} {row : Option Nat} {a : Addr} {v : Value} (hk : w9.cell? a = some v) (ha : a.block = N) (hs : N < w9.heap.size) (hg : (w9.alloc o).grownBy w10 row) (hne : ∀ j, row = some j → j < N) : w10.cell? a = some v :=
  (hg.cell_far a (by rw [World.size_alloc]; omega) (fun e => by have := hne _ e.symm; omega)).trans ((Below.heap_alloc_cell w9 _ _ (by omega)).trans hk)
theorem lt_drew_alloc (w : World) (o : Obj) : w.heap.size < (w.alloc o).drew.heap.size := by
  show w.heap.size < (w.alloc o).heap.size; rw [World.size_alloc]; omega
theorem size_drew_alloc {w w9 : World} {o : Obj} (h : Below (w.alloc o).drew.heap.size (w.alloc o).drew w9) : w.heap.size < w9.heap.size := by
  have := h.size
  have h2 : (w.alloc o).drew.heap.size = w.heap.size + 1 := by show (w.alloc o).heap.size = _; rw [World.size_alloc]
  omega

theorem from_drew_alloc {w w9 : World} {o : Obj} (h : Below (w.alloc o).drew.heap.size (w.alloc o).drew w9) : Below w.heap.size w w9 :=
  (((Below.refl w.heap.size w).alloc (Nat.le_refl _) o).drew).trans (h.mono (by show w.heap.size ≤ (w.alloc o).heap.size; rw [World.size_alloc]; omega))

theorem owns_bl' {W W' : World} {base e size k : Nat} {v : Value} {xs : List Value} (h : W.ownsRow base e size v k xs) (hb : Below W.heap.size W W') : W'.ownsRow base e size v k xs := by
  refine h.kept (grown_bl hb none) ?_
  cases v.ownBlock with
  | none => exact .inl rfl
  | some g => exact .inr (by simp)

theorem SI.skip {s : ByteArray} {B : Nat} {w : World} {pv : Value} {ps : List Pc} {k : Nat} {v : Value} {W W' : World} {p : Pc} (h : SI s B w pv ps k v W) (hB : B ≤ W.heap.size) (hp : ps[k]? = some p) (h7 : isTok p = false) (hb : Below W.heap.size W W') : SI s B w pv ps (k + 1) v W' := by
  obtain ⟨h1, h2, h3, h4, h5⟩ := h
  unfold SI
  rw [filter_take_succ ps k p hp, if_neg (by simp [h7]), List.append_nil]
  exact ⟨owns_bl' h1 hb, owns_bl' h2 hb, h3, h4.below hb, h5.trans (hb.mono hB)⟩

theorem SI.more {s : ByteArray} {B : Nat} {w : World} {pv : Value} {ps : List Pc} {k : Nat} {v : Value} {W W' W'' : World} {p : Pc} (h : SI s B w pv ps k v W) (h6 : 6 ≤ B) (hB : B ≤ W.heap.size) (hp : ps[k]? = some p) (h7 : isTok p = true) (hb : Below W.heap.size W W') {g cap : Nat}
    (hown : W''.ownsRow B 50 5 (.slice (some ⟨g, 0, none⟩) (((ps.take k).filter isTok).length + 1) cap) (((ps.take k).filter isTok).length + 1) (tksCells s ((ps.take k).filter isTok) ++ tkCells s p)) (hg : W'.grownBy W'' v.ownBlock) :
    SI s B w pv ps (k + 1) (.slice (some ⟨g, 0, none⟩) (((ps.take k).filter isTok).length + 1) cap) W'' := by
  obtain ⟨h1, h2, h3, h4, h5⟩ := h
  have hlt := h2.lt
  unfold SI
  rw [filter_take_succ ps k p hp, if_pos h7, List.length_append, tksCells_app]
  have hb2 : Below B W W'' := (hb.mono hB).grown hg (by have := hb.size; omega) (fun j e => (hlt j e).1)
  refine ⟨(owns_bl' h1 hb).kept hg (rows_apart (owns_bl' h1 hb) (owns_bl' h2 hb) (by decide)), by simpa [tksCells] using hown, by simp, h4.low (hb2.mono h6), h5.trans hb2⟩

end Go.Proofs.YtopbmndjnjnmcaaGreatDoor
