/- Package lex: the rules integer, pattern and name. -/
import Derived.WalkKit
import Derived.WalkLawsBesides
import Derived.WalkSpells
import Derived.Lib.Hide
import Derived.Test.YtopbmndjnjnmcaaGreatDoorA5
namespace Go.Proofs.YtopbmndjnjnmcaaGreatDoor
open Go.RowKit Lx

theorem head_r (r : ByteArray) (h : 0 < r.size) : r.data.toList.head? = some r[0] := by
  cases hl : r.data.toList with
  | nil =>
    have h3 : r.data.toList.length = r.size := by simp
    rw [hl] at h3; simp at h3; omega
  | cons a t =>
    have h4 : r.data.toList[0]'(by simpa using h) = r[0] := rfl
    simp only [hl, List.getElem_cons_zero] at h4
    simp [h4]

theorem head_is (r : ByteArray) (h : 0 < r.size) (c : UInt8) : (r.data.toList.head? == some c) = ((r[0].toNat : Int) == (c.toNat : Int)) := by
  rw [head_r r h, Bool.eq_iff_iff, beq_iff_eq, beq_iff_eq, Option.some.injEq]
  exact ⟨fun e => by rw [e], fun e => UInt8.toNat_inj.1 (by omega)⟩

theorem bt {w W w2 : World} (h1 : Below w.heap.size w W) (h2 : Below W.heap.size W w2) : Below w.heap.size w w2 := h1.trans (h2.mono h1.size)
theorem run1_r (r : ByteArray) (hs : r.size ≤ 20000) (w : World) :
    Calls Tryz.prog 157 #[.string r, .int .i64 1] w fun e w' => ∃ k : Nat, e = .returned (.int .i64 k) ∧ Hid (qRun 1 r.data.toList = k) ∧ k ≤ r.size ∧ Below w.heap.size w w' :=
  (run_1 r (by unfold maxLen; omega) w).mono fun _ _ ⟨he, hb⟩ => ⟨qRun 1 r.data.toList, he, Lib.hid rfl, by have := qRun_le 1 r.data.toList; simpa using this, hb⟩

theorem qInt_minus (l : Bs) (op : Bool) (h : (l.head? == some 45 && !op) = true) (k : Nat) (hk : qRun 1 (l.drop 1) = k) : qInt l op = if 0 < k then 1 + k else 0 := by
  unfold qInt; simp only [h, if_true, hk]
theorem qInt_plain (l : Bs) (op : Bool) (h : (l.head? == some 45 && !op) = false) (k : Nat) (hk : qRun 1 l = k) : qInt l op = if 0 < k then k else 0 := by
  unfold qInt; simp only [h, if_false, Bool.false_eq_true, List.drop_zero, hk, Nat.zero_add]

set_option maxHeartbeats 1000000 in
theorem integer_any (s : ByteArray) (b i t : Nat) (op : Bool) (hi : i < s.size) (hs : s.size ≤ 20000) (w : World) (hc : Cut w b s i t op) :
    Calls Tryz.prog 177 #[.pointer (some ⟨b, 0, none⟩)] w fun e w' => e = .returned (.int .i64 (qInt (qLook s i) op : Nat)) ∧ Below w.heap.size w w' := by
  obtain ⟨h0, h1, _, h3⟩ := hc
  have HC := Lib.hid h0
  have HD := Lib.hid h1
  clear h0 h1
  go_enter Tryz.func177, Tryz.ntmps177
  go_wp2_with fail
  refine (reach_r s b i hi hs _ HC.out HD.out).mono ?_
  rintro e w' ⟨r, n, rfl, rfl, hR, hr1, hr2⟩
  have hb := bl w n
  have hh := Lib.hid (head_is r hr1 45)
  cases h45 : ((r[0].toNat : Int) == 45)
  · have hq := Lib.hid (qInt_plain r.data.toList op (by rw [hh.out]; show (((r[0].toNat : Int) == 45) && _) = false; rw [h45]; rfl))
    go_wp2_with fail
    refine (run1_r r (by omega) _).mono ?_
    rintro e w1 ⟨k, rfl, hK, hk, hb1⟩
    by_cases hk0 : 0 < k
    all_goals
      go_wp2_with fail
      go_ret
      exact ⟨ret_int (by rw [show qLook s i = r.data.toList from hR.out.symm, hq.out k hK.out]; simp [hk0]), bt hb hb1⟩
  · cases op
    · have hq := Lib.hid (qInt_minus r.data.toList false (by rw [hh.out]; show (((r[0].toNat : Int) == 45) && _) = true; rw [h45]; rfl))
      go_wp2_with fail
      refine (run1_ex r 1 (by omega) (by omega) _).mono ?_
      rintro e w1 ⟨k, rfl, hK, hk, hb1⟩
      by_cases hk0 : 0 < k
      all_goals
        go_wp2_with fail
        go_ret
        exact ⟨ret_int (by rw [show qLook s i = r.data.toList from hR.out.symm, hq.out k hK.out]; simp [hk0]), bt hb hb1⟩
    · have hq := Lib.hid (qInt_plain r.data.toList true (by simp))
      go_wp2_with fail
      refine (run1_r r (by omega) _).mono ?_
      rintro e w1 ⟨k, rfl, hK, hk, hb1⟩
      by_cases hk0 : 0 < k
      all_goals
        go_wp2_with fail
        go_ret
        exact ⟨ret_int (by rw [show qLook s i = r.data.toList from hR.out.symm, hq.out k hK.out]; simp [hk0]), bt hb hb1⟩

theorem qPat_0 (l : Bs) (h : (l.head? == some 63) = false) : qPat l = 0 := by
  unfold qPat; rw [h]; rfl
theorem qPat_1 (l : Bs) (h : (l.head? == some 63) = true) (hk : qPlain (l.drop 1) = 0) : qPat l = 0 := by
  unfold qPat; rw [if_pos h]; exact if_pos hk
theorem qPat_2 (l : Bs) (h : (l.head? == some 63) = true) (k : Nat) (hk : qPlain (l.drop 1) = k) (h0 : 0 < k) (hq : qColon (l.drop (k + 1)) = false) : qPat l = k + 1 := by
  unfold qPat; rw [if_pos h]; refine (if_neg (by omega)).trans ?_; simp only [hk, hq]; simp
theorem qPat_3 (l : Bs) (h : (l.head? == some 63) = true) (k : Nat) (hk : qPlain (l.drop 1) = k) (h0 : 0 < k) (hq : qColon (l.drop (k + 1)) = true) (j : Nat) (hj : qPlain (l.drop (k + 2)) = j) : qPat l = if 0 < j then k + 2 + j else k + 1 := by
  unfold qPat; rw [if_pos h]; refine (if_neg (by omega)).trans ?_; simp only [hk, hq, hj]; simp
theorem qColon_len (l : Bs) (h : qColon l = true) : 0 < l.length := by
  cases l with
  | nil => simp [qColon] at h
  | cons a t => simp

set_option maxHeartbeats 1000000 in
theorem pattern_any (s : ByteArray) (b i t : Nat) (op : Bool) (hi : i < s.size) (hs : s.size ≤ 20000) (w : World) (hc : Cut w b s i t op) :
    Calls Tryz.prog 181 #[.pointer (some ⟨b, 0, none⟩)] w fun e w' => e = .returned (.int .i64 (qPat (qLook s i) : Nat)) ∧ Below w.heap.size w w' := by
  obtain ⟨h0, h1, _, h3⟩ := hc
  have HC := Lib.hid h0
  have HD := Lib.hid h1
  clear h0 h1 h3
  go_enter Tryz.func181, Tryz.ntmps181
  go_wp2_with fail
  refine (reach_r s b i hi hs _ HC.out HD.out).mono ?_
  rintro e w' ⟨r, n, rfl, rfl, hR, hr1, hr2⟩
  have hb := bl w n
  have hl : Hid (qLook s i = r.data.toList) := Lib.hid hR.out.symm
  cases h63 : ((r[0].toNat : Int) != 63)
  · have hh : Hid ((r.data.toList.head? == some 63) = true) := by
      rw [head_is r hr1 63]; have : ((r[0].toNat : Int) == 63) = true := by simpa using h63
      exact this
    go_wp2_with fail
    refine (plain_ex r 1 (by omega) (by omega) _).mono ?_
    rintro e w1 ⟨k, rfl, hK, hk, hb1⟩
    have hb' := bt hb hb1
    by_cases hk0 : k = 0
    · subst hk0
      go_wp2_with fail
      go_ret
      exact ⟨ret_int (by rw [hl.out, qPat_1 _ hh.out hK.out]; rfl), hb'⟩
    · have hk1 : ((k : Int) == 0) = false := by simp; omega
      have hk2 : 0 < k := by omega
      clear hk0
      cases hq : qColon (r.data.toList.drop (k + 1))
      · have hv := Lib.hid (qPat_2 _ hh.out k hK.out hk2 hq)
        go_wp2_with (go_at_call 193; refine (isColon_ex _ _ _).mono ?_; rintro e w' ⟨rfl, rfl⟩)
        go_ret
        exact ⟨ret_int (by rw [hl.out, hv.out]; rfl), hb'⟩
      · have hv := Lib.hid (qPat_3 _ hh.out k hK.out hk2 hq)
        have hlen : k + 1 < r.size := by have := qColon_len _ hq; simp at this; omega
        go_wp2_with (go_at_call 193; refine (isColon_ex _ _ _).mono ?_; rintro e w' ⟨rfl, rfl⟩)
        refine (plain_ex r (k + 2) (by omega) (by omega) _).mono ?_
        rintro e w2 ⟨j, rfl, hJ, hj, hb2⟩
        by_cases hj0 : 0 < j
        all_goals
          go_wp2_with fail
          go_ret
          exact ⟨ret_int (by rw [hl.out, hv.out j hJ.out]; simp [hj0]; try omega), bt hb' hb2⟩
  · have hh : Hid ((r.data.toList.head? == some 63) = false) := by
      rw [head_is r hr1 63]; have : ((r[0].toNat : Int) == 63) = false := by simpa using h63
      exact this
    go_wp2_with fail
    go_ret
    exact ⟨ret_int (by rw [hl.out, qPat_0 _ hh.out]; rfl), hb⟩

theorem at_take (l : Bs) (m : Nat) (c : UInt8) : ((l.drop m).take 1 == [c]) = (l[m]? == some c) := by
  rw [← List.head?_drop]
  cases l.drop m <;> simp
theorem qName_1 (l : Bs) (m : Nat) (hm : qPlain l = m) (h : ((l.drop m).take 1 == [64]) = false) : qName l = m := by
  rw [at_take] at h; unfold qName; simp only [hm, h]; simp
theorem qName_2 (l : Bs) (m : Nat) (hm : qPlain l = m) (h : l.length ≤ m + 1) : qName l = m := by
  unfold qName; simp only [hm]; rw [List.getElem?_eq_none h]; simp
theorem qName_3 (r : ByteArray) (m : Nat) (hm : qPlain r.data.toList = m) (hlt : m + 1 < r.size) (h1 : cSmall r[m + 1].toNat = false) (h2 : cDigit r[m + 1].toNat = false) : qName r.data.toList = m := by
  unfold qName; simp only [hm]; rw [List.getElem?_eq_getElem (i := m + 1) (by simpa using hlt)]
  have : r.data.toList[m + 1]'(by simpa using hlt) = r[m + 1] := rfl
  simp only [this, h1, h2]; simp
theorem qName_4 (r : ByteArray) (m : Nat) (hm : qPlain r.data.toList = m) (h0 : 0 < m) (hlt : m + 1 < r.size) (h : ((r.data.toList.drop m).take 1 == [64]) = true) (h1 : (cSmall r[m + 1].toNat || cDigit r[m + 1].toNat) = true) (k : Nat) (hk : qRun 5 (r.data.toList.drop (m + 2)) = k) : qName r.data.toList = m + 2 + k := by
  rw [at_take] at h
  unfold qName; simp only [hm]; rw [List.getElem?_eq_getElem (i := m + 1) (by simpa using hlt)]
  have : r.data.toList[m + 1]'(by simpa using hlt) = r[m + 1] := rfl
  simp only [this, h1, h, h0, hk]; simp

set_option maxHeartbeats 1000000 in
theorem name_any (s : ByteArray) (b i t : Nat) (op : Bool) (hi : i < s.size) (hs : s.size ≤ 20000) (w : World) (hc : Cut w b s i t op) :
    Calls Tryz.prog 176 #[.pointer (some ⟨b, 0, none⟩)] w fun e w' => e = .returned (.int .i64 (qName (qLook s i) : Nat)) ∧ Below w.heap.size w w' := by
  obtain ⟨h0, h1, _, h3⟩ := hc
  have HC := Lib.hid h0
  have HD := Lib.hid h1
  clear h0 h1 h3
  go_enter Tryz.func176, Tryz.ntmps176
  go_wp2_with fail
  refine (reach_r s b i hi hs _ HC.out HD.out).mono ?_
  rintro e w' ⟨r, n, rfl, rfl, hR, hr1, hr2⟩
  have hl : Hid (qLook s i = r.data.toList) := Lib.hid hR.out.symm
  go_wp2_with fail
  refine (plain_r r (by unfold maxLen; omega) _).mono ?_
  rintro e w1 ⟨m, rfl, hM, hm, hb1⟩
  have hb := bt (bl w n) hb1
  by_cases hm0 : 0 < m
  · cases h64 : ((r.data.toList.drop m).take 1 == [64])
    · have hv := Lib.hid (qName_1 _ m hM.out h64)
      go_wp2_with (go_at_call 172; refine (hasPrefix_ex _ _ _ _).mono ?_; rintro e w' ⟨rfl, rfl⟩)
      go_ret
      exact ⟨ret_int (by rw [hl.out, hv.out]), hb⟩
    · by_cases hlt : m + 1 < r.size
      · cases hS : cSmall r[m + 1].toNat
        · cases hD : cDigit r[m + 1].toNat
          · have hv := Lib.hid (qName_3 r m hM.out hlt hS hD)
            go_wp2_with (first | (go_at_call 172; refine (hasPrefix_ex _ _ _ _).mono ?_; rintro e w' ⟨rfl, rfl⟩) | (go_at_call 175; refine (classesOf_lit _ _).mono ?_; rintro e w' ⟨rfl, rfl⟩))
            go_ret
            exact ⟨ret_int (by rw [hl.out, hv.out]), (hb.alloc hb.size _).alloc (hb.alloc hb.size _).size _⟩
          · have hv := Lib.hid (qName_4 r m hM.out hm0 hlt h64 (by rw [hD]; simp))
            go_wp2_with (first | (go_at_call 172; refine (hasPrefix_ex _ _ _ _).mono ?_; rintro e w' ⟨rfl, rfl⟩) | (go_at_call 175; refine (classesOf_lit _ _).mono ?_; rintro e w' ⟨rfl, rfl⟩))
            refine (run5_ex r (m + 2) (by omega) (by omega) _).mono ?_
            rintro e w2 ⟨k, rfl, hK, hk, hb2⟩
            go_wp2_with fail
            go_ret
            exact ⟨ret_int (by rw [hl.out, hv.out k hK.out]; omega), bt ((hb.alloc hb.size _).alloc (hb.alloc hb.size _).size _) hb2⟩
        · have hv := Lib.hid (qName_4 r m hM.out hm0 hlt h64 (by rw [hS]; simp))
          go_wp2_with (first | (go_at_call 172; refine (hasPrefix_ex _ _ _ _).mono ?_; rintro e w' ⟨rfl, rfl⟩) | (go_at_call 175; refine (classesOf_lit _ _).mono ?_; rintro e w' ⟨rfl, rfl⟩))
          refine (run5_ex r (m + 2) (by omega) (by omega) _).mono ?_
          rintro e w2 ⟨k, rfl, hK, hk, hb2⟩
          go_wp2_with fail
          go_ret
          exact ⟨ret_int (by rw [hl.out, hv.out k hK.out]; omega), bt ((hb.alloc hb.size _).alloc (hb.alloc hb.size _).size _) hb2⟩
      · have hv := Lib.hid (qName_2 r.data.toList m hM.out (by simp; omega))
        go_wp2_with (first | (go_at_call 172; refine (hasPrefix_ex _ _ _ _).mono ?_; rintro e w' ⟨rfl, rfl⟩))
        go_ret
        exact ⟨ret_int (by rw [hl.out, hv.out]), hb⟩
  · go_wp2_with fail
    go_ret
    exact ⟨ret_int (by rw [hl.out]; unfold qName; simp [hM.out, hm0]), hb⟩
end Go.Proofs.YtopbmndjnjnmcaaGreatDoor
