/- When a text is an integer: by its pieces and by its digits; the walk of LexKinds. -/
import Derived.Test.YtdfkkeeohbgmbaaGreatDoorQ4
import Derived.Test.YtdfkkeeohbgmbaaGreatDoorA31
namespace Go.Proofs.YtdfkkeeohbgmbaaGreatDoor
open Go.RowKit Lx

attribute [local go_sem] Oper.semAt_some

theorem next_check {l : Bs} {i kind len : Nat} {op : Bool} (h : qNext l i op = ⟨0, kind, len⟩) (hk : kind < 7) : qCheck l i kind len = 0 := by
  unfold qNext at h
  split at h
  · rename_i hc; injection h with h1 _ _; exact absurd h1 hc
  · split at h
    · injection h with _ h2 _; omega
    · split at h
      · injection h with _ h2 _; omega
      · split at h
        · rename_i hc; injection h with h1 _ _; exact absurd h1 hc
        · rename_i hc
          injection h with _ h2 h3
          rw [← h2, ← h3]
          simpa using hc
/-- **An integer's text.** -/
theorem kind_canon (l : Bs) : (qKind l = 2) ↔ qCanon l = true := by
  constructor
  · intro h
    have hb := qKind_small l (by omega)
    have h0 : 0 < l.length := by
      rcases Nat.eq_zero_or_pos l.length with h0 | h0
      · rw [kind_none h0] at h; cases h
      · exact h0
    obtain ⟨er, kind, len, hn⟩ : ∃ er kind len, qNext l 0 false = ⟨er, kind, len⟩ := ⟨_, _, _, rfl⟩
    rw [kind_next h0 hb hn] at h
    by_cases her : er = 0
    · subst her
      rw [if_neg (by simp)] at h
      by_cases hc : kind < 7 ∧ len = l.length
      · rw [if_pos hc] at h
        subst h
        have hq := next_check hn (by omega)
        rw [hc.2] at hq
        cases hcan : qCanon ((l.drop 0).take l.length)
        · rw [qCheck_11 l 0 2 l.length (by rw [hcan]; simp)] at hq; cases hq
        · rw [List.drop_zero, List.take_length] at hcan; exact hcan
      · rw [if_neg hc] at h; cases h
    · rw [if_pos her] at h; cases h
  · intro h
    unfold qCanon at h
    split at h
    · rename_i n hn
      have hb := atoi_bounds l n hn
      rw [← eq_of_beq h]
      exact qKind_itoa n hb.1 hb.2
    · cases h

set_option maxRecDepth 100000 in
set_option maxHeartbeats 8000000 in
/-- **LexKinds** -/
theorem lexKinds_any (s : ByteArray) (hm2 : s.size ≤ maxLen) (w : World) (he : Env w) :
    Calls Tryz.prog 5 #[.string s] w fun e W => e = .returned (.bool true) ∧ Below w.heap.size w W := by
  have HE := Lib.hid he
  have hnum : (if qKind s.data.toList = 2 then (#[.int .i64 (qNum s.data.toList), .int .i64 0] : Array Value) else #[.int .i64 0, .int .i64 11]) = if qCanon s.data.toList = true then #[.int .i64 (qNum s.data.toList), .int .i64 0] else #[.int .i64 0, .int .i64 11] := by
    by_cases h : qCanon s.data.toList = true
    · rw [if_pos h, if_pos ((kind_canon _).2 h)]
    · rw [if_neg h, if_neg (fun e => h ((kind_canon _).1 e))]
  have HN := Lib.hid hnum
  obtain ⟨n, f, hr⟩ : ∃ (n f : Int), (if qCanon s.data.toList = true then (#[.int .i64 (qNum s.data.toList), .int .i64 0] : Array Value) else #[.int .i64 0, .int .i64 11]) = #[.int .i64 n, .int .i64 f] := by
    split
    · exact ⟨_, _, rfl⟩
    · exact ⟨_, _, rfl⟩
  have HR := Lib.hid hr
  obtain ⟨k, hk⟩ : ∃ k, qKind s.data.toList = k := ⟨_, rfl⟩
  obtain ⟨x, hx⟩ : ∃ x, Lib.indexByte s.data.toList 64 = x := ⟨_, rfl⟩
  obtain ⟨a, ha⟩ : ∃ a, (⟨(qSplit s.data.toList).1.toArray⟩ : ByteArray) = a := ⟨_, rfl⟩
  obtain ⟨b, hb⟩ : ∃ b, (⟨(qSplit s.data.toList).2.toArray⟩ : ByteArray) = b := ⟨_, rfl⟩
  have HK := Lib.hid hk
  have HX := Lib.hid hx
  have HA := Lib.hid ha
  have HB := Lib.hid hb
  have HM2 := Lib.hid hm2
  clear hnum hr hk hx ha hb he hm2
  go_enter Tryz.func5, Tryz.ntmps5
  go_wp2_with fail
  refine (sane_any _ HE.out).mono ?_
  rintro e W1 ⟨rfl, hb1⟩
  have HB1 := Lib.hid hb1
  have HE1 := Lib.hid (HE.out.below hb1)
  clear hb1
  go_wp2_with fail
  refine (splitFull_any s HM2.out _ HE1.out).mono ?_
  rintro e W2 ⟨rfl, hb2⟩
  rw [HA.out, HB.out]
  have HB2 := Lib.hid (bt HB1.out hb2)
  have HE2 := Lib.hid (HE1.out.below hb2)
  clear hb2 HB1 HE1
  go_wp2_with fail
  refine (refSplit_any s HM2.out _).mono ?_
  rintro e W3 ⟨rfl, hb3⟩
  rw [HA.out, HB.out]
  have HB3 := Lib.hid (bt HB2.out hb3)
  have HE3 := Lib.hid (HE2.out.below hb3)
  clear hb3 HB2 HE2
  go_wp2_with fail
  refine (number_any s HM2.out _ HE3.out).mono ?_
  rintro e W4 ⟨rfl, hb4⟩
  rw [HN.out, HR.out]
  have HB4 := Lib.hid (bt HB3.out hb4)
  have HE4 := Lib.hid (HE3.out.below hb4)
  clear hb4 HB3 HE3
  go_wp2_with fail
  refine (refNumber_any s _).mono ?_
  rintro e W5 ⟨rfl, hb5⟩
  rw [HR.out]
  have HB5 := Lib.hid (bt HB4.out hb5)
  have HE5 := Lib.hid (HE4.out.below hb5)
  clear hb5 HB4 HE4
  go_wp2_with fail
  refine (kind_any s HM2.out _ HE5.out).mono ?_
  rintro e W6 ⟨rfl, hb6⟩
  rw [HK.out]
  have HB6 := Lib.hid (bt HB5.out hb6)
  have HE6 := Lib.hid (HE5.out.below hb6)
  clear hb6 HB5 HE5
  go_wp2_with fail
  refine (refKind_any s HM2.out _).mono ?_
  rintro e W7 ⟨rfl, hb7⟩
  rw [HK.out]
  have HB7 := Lib.hid (bt HB6.out hb7)
  have HE7 := Lib.hid (HE6.out.below hb7)
  clear hb7 HB6 HE6
  go_wp2_with fail
  refine (isName_any s HM2.out _ HE7.out).mono ?_
  rintro e W8 ⟨rfl, hb8⟩
  rw [HK.out]
  have HB8 := Lib.hid (bt HB7.out hb8)
  have HE8 := Lib.hid (HE7.out.below hb8)
  clear hb8 HB7 HE7
  go_wp2_with fail
  refine (refIsName_any s HM2.out _).mono ?_
  rintro e W9 ⟨rfl, hb9⟩
  rw [HK.out]
  have HB9 := Lib.hid (bt HB8.out hb9)
  have HE9 := Lib.hid (HE8.out.below hb9)
  clear hb9 HB8 HE8
  go_wp2_with fail
  refine (isPlain_any s HM2.out _ HE9.out).mono ?_
  rintro e W10 ⟨rfl, hb10⟩
  rw [HK.out, HX.out]
  have HB10 := Lib.hid (bt HB9.out hb10)
  clear hb10 HB9
  go_wp2_with fail
  refine (refIsPlain_any s HM2.out _).mono ?_
  rintro e W11 ⟨rfl, hb11⟩
  rw [HK.out, HX.out]
  have HB11 := Lib.hid (bt HB10.out hb11)
  clear hb11 HB10
  go_wp2_with fail
  go_ret
  exact ⟨rfl, HB11.out⟩
end Go.Proofs.YtdfkkeeohbgmbaaGreatDoor
