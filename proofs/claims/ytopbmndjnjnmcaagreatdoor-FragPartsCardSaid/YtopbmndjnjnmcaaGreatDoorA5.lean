/- Package lex: the rules keyword, hash and sign. -/
import Derived.WalkKit
import Derived.WalkLawsBesides
import Derived.WalkSpells
import Derived.Lib.Hide
import Derived.Test.YtopbmndjnjnmcaaGreatDoorA4
namespace Go.Proofs.YtopbmndjnjnmcaaGreatDoor
open Go.RowKit Lx

/-- The bytes at which the rules look. -/
def qLook (s : ByteArray) (i : Nat) : Bs := (s.data.toList.drop i).take 100

theorem bl (w : World) (n : Nat) : Below w.heap.size w (w.drewN n) := below_drewN (Below.refl _ _) n

set_option maxHeartbeats 400000 in
theorem keyword_any (s : ByteArray) (b i t : Nat) (op : Bool) (hi : i < s.size) (hs : s.size ≤ 20000) (w : World) (hc : Cut w b s i t op) :
    Calls Tryz.prog 178 #[.pointer (some ⟨b, 0, none⟩)] w fun e w' => e = .returned (.int .i64 (qKey (qLook s i) : Nat)) ∧ Below w.heap.size w w' := by
  obtain ⟨h0, h1, _, _⟩ := hc
  have HC := Lib.hid h0
  have HD := Lib.hid h1
  clear h0 h1
  go_enter Tryz.func178, Tryz.ntmps178
  go_wp2_with fail
  refine (reach_r s b i hi hs _ HC.out HD.out).mono ?_
  rintro e w' ⟨r, n, rfl, rfl, hR, hr1, hr2⟩
  go_wp2_with fail
  refine (plain_r r (by unfold maxLen; omega) _).mono ?_
  rintro e w1 ⟨m, rfl, hM, hm, hb1⟩
  have hb := (bl w n).trans hb1
  by_cases hm0 : 0 < m
  · cases hq : qColon (r.data.toList.drop m)
    all_goals
      go_wp2_with (go_at_call 193; refine (isColon_ex _ _ _).mono ?_; rintro e w' ⟨rfl, rfl⟩)
      go_ret
      exact ⟨ret_int (by rw [show qLook s i = r.data.toList from hR.out.symm]; simp [qKey, hM.out, hm0, hq]), hb⟩
  · go_wp2_with fail
    go_ret
    exact ⟨ret_int (by rw [show qLook s i = r.data.toList from hR.out.symm]; simp [qKey, hM.out, hm0]), hb⟩

set_option maxHeartbeats 400000 in
theorem hash_any (s : ByteArray) (b i t : Nat) (op : Bool) (hi : i < s.size) (hs : s.size ≤ 20000) (w : World) (hc : Cut w b s i t op) :
    Calls Tryz.prog 179 #[.pointer (some ⟨b, 0, none⟩)] w fun e w' => e = .returned (.int .i64 (qHash (qLook s i) : Nat)) ∧ Below w.heap.size w w' := by
  obtain ⟨h0, h1, _, _⟩ := hc
  have HC := Lib.hid h0
  have HD := Lib.hid h1
  clear h0 h1
  go_enter Tryz.func179, Tryz.ntmps179
  go_wp2_with fail
  refine (reach_r s b i hi hs _ HC.out HD.out).mono ?_
  rintro e w' ⟨r, n, rfl, rfl, hR, hr1, hr2⟩
  have hb := bl w n
  by_cases h1 : r.data.toList.take 2 = [35, 116]
  · go_wp2_with (go_at_call 172; refine (hasPrefix_r _ _ _).mono ?_; rintro e w' ⟨rfl, rfl⟩)
    go_ret
    exact ⟨ret_int (by rw [show qLook s i = r.data.toList from hR.out.symm]; simp [qHash, h1]), hb⟩
  · by_cases h2 : r.data.toList.take 2 = [35, 102]
    · have b1 : (r.data.toList.take 2 == [35, 116]) = false := by simpa using h1
      have b2 : (r.data.toList.take 2 == [35, 102]) = true := by simpa using h2
      have hv : Hid (qHash r.data.toList = 2) := by unfold qHash; rw [b1, b2]; rfl
      clear h1 h2
      go_wp2_with (go_at_call 172; refine (hasPrefix_r _ _ _).mono ?_; rintro e w' ⟨rfl, rfl⟩)
      go_ret
      exact ⟨ret_int (by rw [show qLook s i = r.data.toList from hR.out.symm, hv.out]; rfl), hb⟩
    · have b1 : (r.data.toList.take 2 == [35, 116]) = false := by simpa using h1
      have b2 : (r.data.toList.take 2 == [35, 102]) = false := by simpa using h2
      have hv : Hid (qHash r.data.toList = 0) := by unfold qHash; rw [b1, b2]; rfl
      clear h1 h2
      go_wp2_with (go_at_call 172; refine (hasPrefix_r _ _ _).mono ?_; rintro e w' ⟨rfl, rfl⟩)
      go_ret
      exact ⟨ret_int (by rw [show qLook s i = r.data.toList from hR.out.symm, hv.out]; rfl), hb⟩

theorem idx_mem (l : Bs) (c : UInt8) : (0 : Int) ≤ Lib.indexByte l c ↔ l.contains c = true := by
  induction l with
  | nil => simp [Lib.indexByte]
  | cons a t ih =>
    simp only [Lib.indexByte, List.contains_cons]
    by_cases h : a = c
    · subst h; simp
    · have h' : (c == a) = false := by simpa using fun e : c = a => h e.symm
      have h : ¬ (a == c) = true := by simpa using h
      rw [if_neg h, h', Bool.false_or, ← ih]
      by_cases h2 : Lib.indexByte t c == -1
      · rw [if_pos h2]; have : Lib.indexByte t c = -1 := by simpa using h2
        omega
      · rw [if_neg h2]
        have : Lib.indexByte t c ≠ -1 := by simpa using h2
        have : -1 ≤ Lib.indexByte t c := by
          clear ih h2 h h' this
          induction t with
          | nil => simp [Lib.indexByte]
          | cons a t ih => simp only [Lib.indexByte]; split; · omega
                           · split <;> omega
        omega

/-- sign, where the first two bytes are a sign. -/
def Two (r : ByteArray) : Prop := qTwo.contains (r.data.toList.take 2) = true

theorem sign_cases (r : ByteArray) (h : 0 < r.size) :
    (1 < r.size ∧ ((r.extract 0 2).toList == [58, 61]) = true ∧ Hid (qSign r.data.toList = 2)) ∨
    (1 < r.size ∧ ((r.extract 0 2).toList == [58, 61]) = false ∧ ((r.extract 0 2).toList == [58, 58]) = true ∧ Hid (qSign r.data.toList = 2)) ∨
    (1 < r.size ∧ ((r.extract 0 2).toList == [58, 61]) = false ∧ ((r.extract 0 2).toList == [58, 58]) = false ∧ ((r.extract 0 2).toList == [61, 62]) = true ∧ Hid (qSign r.data.toList = 2)) ∨
    (1 < r.size ∧ ((r.extract 0 2).toList == [58, 61]) = false ∧ ((r.extract 0 2).toList == [58, 58]) = false ∧ ((r.extract 0 2).toList == [61, 62]) = false ∧ ((r.extract 0 2).toList == [61, 61]) = true ∧ Hid (qSign r.data.toList = 2)) ∨
    (1 < r.size ∧ ((r.extract 0 2).toList == [58, 61]) = false ∧ ((r.extract 0 2).toList == [58, 58]) = false ∧ ((r.extract 0 2).toList == [61, 62]) = false ∧ ((r.extract 0 2).toList == [61, 61]) = false ∧ ((r.extract 0 2).toList == [60, 61]) = true ∧ Hid (qSign r.data.toList = 2)) ∨
    (1 < r.size ∧ ((r.extract 0 2).toList == [58, 61]) = false ∧ ((r.extract 0 2).toList == [58, 58]) = false ∧ ((r.extract 0 2).toList == [61, 62]) = false ∧ ((r.extract 0 2).toList == [61, 61]) = false ∧ ((r.extract 0 2).toList == [60, 61]) = false ∧ ((r.extract 0 2).toList == [62, 61]) = true ∧ Hid (qSign r.data.toList = 2)) ∨
    (1 < r.size ∧ ((r.extract 0 2).toList == [58, 61]) = false ∧ ((r.extract 0 2).toList == [58, 58]) = false ∧ ((r.extract 0 2).toList == [61, 62]) = false ∧ ((r.extract 0 2).toList == [61, 61]) = false ∧ ((r.extract 0 2).toList == [60, 61]) = false ∧ ((r.extract 0 2).toList == [62, 61]) = false ∧ Hid (qSign r.data.toList = if (0 : Int) ≤ Lib.indexByte qOne r[0] then 1 else 0)) ∨
    (r.size ≤ 1 ∧ Hid (qSign r.data.toList = if (0 : Int) ≤ Lib.indexByte qOne r[0] then 1 else 0)) := by
  have e2 : (r.extract 0 2).toList = r.data.toList.take 2 := by
    have := Lib.extract_toList r 0 2; simpa using this
  have hh : r.data.toList.head? = some r[0] := by
    cases hl : r.data.toList with
    | nil =>
      have h3 : r.data.toList.length = r.size := by simp
      rw [hl] at h3; simp at h3; omega
    | cons a t =>
      have h4 : r.data.toList[0]'(by simpa using h) = r[0] := rfl
      simp only [hl, List.getElem_cons_zero] at h4
      simp [h4]
  have hv : qTwo.contains (r.data.toList.take 2) = false → qSign r.data.toList = if (0 : Int) ≤ Lib.indexByte qOne r[0] then 1 else 0 := by
    intro ht
    unfold qSign
    rw [ht, hh]
    by_cases hm : qOne.contains r[0] = true
    · rw [if_pos ((idx_mem _ _).2 hm)]; simp only [hm]; rfl
    · rw [if_neg (fun h => hm ((idx_mem _ _).1 h))]; simp only [hm]; rfl
  have hw : qTwo.contains (r.data.toList.take 2) = true → qSign r.data.toList = 2 := by
    intro ht; unfold qSign; rw [ht]; rfl
  simp only [e2]
  have hlen : (r.data.toList.take 2).length = min 2 r.size := by simp
  generalize r.data.toList.take 2 = T at *
  by_cases hs : 1 < r.size
  · by_cases c1 : T = [58, 61]
    · exact .inl ⟨hs, by simp [c1], Lib.hid (hw (by rw [c1]; decide))⟩
    · by_cases c2 : T = [58, 58]
      · exact .inr (.inl ⟨hs, by simp [c1], by simp [c2], Lib.hid (hw (by rw [c2]; decide))⟩)
      · by_cases c3 : T = [61, 62]
        · exact .inr (.inr (.inl ⟨hs, by simp [c1], by simp [c2], by simp [c3], Lib.hid (hw (by rw [c3]; decide))⟩))
        · by_cases c4 : T = [61, 61]
          · exact .inr (.inr (.inr (.inl ⟨hs, by simp [c1], by simp [c2], by simp [c3], by simp [c4], Lib.hid (hw (by rw [c4]; decide))⟩)))
          · by_cases c5 : T = [60, 61]
            · exact .inr (.inr (.inr (.inr (.inl ⟨hs, by simp [c1], by simp [c2], by simp [c3], by simp [c4], by simp [c5], Lib.hid (hw (by rw [c5]; decide))⟩))))
            · by_cases c6 : T = [62, 61]
              · exact .inr (.inr (.inr (.inr (.inr (.inl ⟨hs, by simp [c1], by simp [c2], by simp [c3], by simp [c4], by simp [c5], by simp [c6], Lib.hid (hw (by rw [c6]; decide))⟩)))))
              · exact .inr (.inr (.inr (.inr (.inr (.inr (.inl ⟨hs, by simp [c1], by simp [c2], by simp [c3], by simp [c4], by simp [c5], by simp [c6], Lib.hid (hv (by simp [qTwo, c1, c2, c3, c4, c5, c6]))⟩))))))
  · refine .inr (.inr (.inr (.inr (.inr (.inr (.inr ⟨by omega, Lib.hid (hv ?_)⟩))))))
    have : T.length ≤ 1 := by omega
    match T, this with
    | [], _ => decide
    | [a], _ => simp [qTwo]

set_option maxHeartbeats 2000000 in
theorem sign_any (s : ByteArray) (b i t : Nat) (op : Bool) (hi : i < s.size) (hs : s.size ≤ 20000) (w : World) (hc : Cut w b s i t op) :
    Calls Tryz.prog 180 #[.pointer (some ⟨b, 0, none⟩)] w fun e w' => e = .returned (.int .i64 (qSign (qLook s i) : Nat)) ∧ Below w.heap.size w w' := by
  obtain ⟨h0, h1, _, _⟩ := hc
  have HC := Lib.hid h0
  have HD := Lib.hid h1
  clear h0 h1
  go_enter Tryz.func180, Tryz.ntmps180
  go_wp2_with fail
  refine (reach_r s b i hi hs _ HC.out HD.out).mono ?_
  rintro e w' ⟨r, n, rfl, rfl, hR, hr1, hr2⟩
  have hb := bl w n
  rcases sign_cases r hr1 with ⟨hz, c1, hv⟩ | ⟨hz, c1, c2, hv⟩ | ⟨hz, c1, c2, c3, hv⟩ | ⟨hz, c1, c2, c3, c4, hv⟩ | ⟨hz, c1, c2, c3, c4, c5, hv⟩ | ⟨hz, c1, c2, c3, c4, c5, c6, hv⟩ | ⟨hz, c1, c2, c3, c4, c5, c6, hv⟩ | ⟨hz, hv⟩
  iterate 6
    · go_wp2_with fail
      go_ret
      exact ⟨ret_int (by rw [show qLook s i = r.data.toList from hR.out.symm, hv.out]; rfl), hb⟩
  all_goals
    by_cases hx : (0 : Int) ≤ Lib.indexByte [40, 41, 91, 93, 123, 125, 44, 59, 46, 61, 60, 62, 43, 45, 42, 47, 38, 124, 126, 63] r[0]
    all_goals
      go_wp2_with (go_at_call 173; refine (Tryz.strings_IndexByte _ _ _).mono ?_; rintro e w' ⟨rfl, rfl⟩)
      go_ret
      exact ⟨ret_int (by rw [show qLook s i = r.data.toList from hR.out.symm, hv.out]; unfold qOne; split <;> first | rfl | omega), hb⟩
end Go.Proofs.YtopbmndjnjnmcaaGreatDoor
