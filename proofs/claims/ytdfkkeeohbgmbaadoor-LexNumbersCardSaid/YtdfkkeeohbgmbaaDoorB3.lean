/- Package lex: the reference's Digits, and the walk of LexNumbers. -/
import Derived.Test.YtdfkkeeohbgmbaaDoorA31
import Derived.Test.YtdfkkeeohbgmbaaDoorA37
namespace Go.Proofs.YtdfkkeeohbgmbaaDoor
open Go.RowKit Lx

attribute [local go_sem] Oper.semAt_some

/-- The digits that are still to come, and those that are there. -/
def DigAt (u : Nat) (m : Nat) (s : ByteArray) : Prop := (if m = 0 then [] else Lib.decDigits m) ++ s.data.toList = Lib.decDigits u

theorem dig_start (u : Nat) (s : ByteArray) (h : s.data.toList = [UInt8.ofNat (48 + u % 10)]) : DigAt u (u / 10) s := by
  unfold DigAt
  rw [h]
  rw [Lib.decDigits.eq_def u]
  by_cases hu : u < 10
  · rw [dif_pos hu, if_pos (by omega), List.nil_append, Nat.mod_eq_of_lt hu]
  · rw [dif_neg hu, if_neg (by omega)]

theorem dig_step (u m : Nat) (s t : ByteArray) (h : DigAt u m s) (hm : m ≠ 0) (ht : t.data.toList = UInt8.ofNat (48 + m % 10) :: s.data.toList) : DigAt u (m / 10) t := by
  unfold DigAt at h ⊢
  rw [if_neg hm] at h
  rw [ht, ← h]
  rw [Lib.decDigits.eq_def m]
  by_cases hu : m < 10
  · rw [dif_pos hu, if_pos (by omega), List.nil_append, Nat.mod_eq_of_lt hu]; rfl
  · rw [dif_neg hu, if_neg (by omega)]; simp

theorem dig_end (u : Nat) (s : ByteArray) (h : DigAt u 0 s) : s.data.toList = Lib.decDigits u := by
  unfold DigAt at h; simpa using h

theorem enc_digit (d : Nat) (h : d < 10) : (Utf8.encode (48 + (d : Int))).data.toList = [UInt8.ofNat (48 + d)] := by
  have : d = 0 ∨ d = 1 ∨ d = 2 ∨ d = 3 ∨ d = 4 ∨ d = 5 ∨ d = 6 ∨ d = 7 ∨ d = 8 ∨ d = 9 := by omega
  rcases this with rfl | rfl | rfl | rfl | rfl | rfl | rfl | rfl | rfl | rfl <;> decide +kernel

theorem neg_tmod10 (n : Nat) : (-(n : Int)).tmod 10 = -((n % 10 : Nat) : Int) := by
  show (-(n : Int)).tmod ((10 : Nat) : Int) = _
  rw [Int.neg_tmod, ← Int.ofNat_tmod]

theorem enc_small (m : Nat) : (Utf8.encode (48 + (m : Int) % 10)).size ≤ 1 := by
  have h := congrArg List.length (enc_digit (m % 10) (Nat.mod_lt _ (by decide)))
  rw [Array.length_toList, ByteArray.size_data, Int.natCast_emod] at h
  exact Nat.le_of_eq h

theorem dig_small (u m : Nat) (s : ByteArray) (hu : u ≤ 9223372036854775808) (h : DigAt u m s) : s.size ≤ 20 := by
  have h1 := congrArg List.length h
  have h2 := Lib.decDigits_length u
  have h3 := Lib.nDigits_le20 u (by omega)
  rw [List.length_append] at h1
  simp only [Array.length_toList, ByteArray.size_data] at h1
  omega

set_option maxRecDepth 100000 in
set_option maxHeartbeats 2000000 in
theorem refDigits_pos (n : Nat) (h1 : n ≤ 9223372036854775807) (w : World) :
    Calls Tryd.prog 13 #[.int .i64 n] w fun e W => ∃ s : ByteArray, e = .returned (.string s) ∧ s.data.toList = Lib.decDigits n ∧ w = W := by
  have t0 : decide ((n : Int) < 0) = false := by simp
  go_enter Tryd.func13, Tryd.ntmps13
  go_wp2_with fail
  go_loop [5, 6] (fun a b => ∃ (m : Nat) (s : ByteArray), m ≤ n ∧ a = .string s ∧ b = .int .i64 m ∧ Hid (DigAt n m s)) (fun _ b => (intOf b).toNat)
  case atStart => exact ⟨n / 10, _, by omega, rfl, by go_num, Lib.hid (dig_start n _ (by have := enc_digit (n % 10) (by omega); simpa using this))⟩
  case round =>
    obtain ⟨m, s, hm, rfl, rfl, HD⟩ := hrel
    cases hz : ((m : Int) != 0)
    · have hm0 : m = 0 := by simp at hz; omega
      subst hm0
      go_wp2_with fail
      go_ret
      exact ⟨s, rfl, dig_end n s HD.out, rfl⟩
    · have hm0 : m ≠ 0 := by simp at hz; omega
      have HM0 := Lib.hid hm0
      have z1 := enc_small m
      have z2 := dig_small n m s (by omega) HD.out
      clear hm0
      go_wp2_with fail
      go_round
      case rel => exact ⟨m / 10, _, by omega, rfl, by go_num, Lib.hid (dig_step n m s _ HD.out HM0.out (by have := enc_digit (m % 10) (by omega); rw [extract_append]; simp at this; simp [this]))⟩
      case measure => have := HM0.out; simp [intOf]; omega

set_option maxRecDepth 100000 in
set_option maxHeartbeats 2000000 in
theorem refDigits_neg (n : Nat) (h0 : 1 ≤ n) (h1 : n ≤ 9223372036854775808) (w : World) :
    Calls Tryd.prog 13 #[.int .i64 (-(n : Int))] w fun e W => ∃ s : ByteArray, e = .returned (.string s) ∧ s.data.toList = 45 :: Lib.decDigits n ∧ w = W := by
  have t0 : decide (-(n : Int) < 0) = true := by simp; omega
  have e1 : (-(n : Int)).tmod 10 = -((n % 10 : Nat) : Int) := neg_tmod10 n
  have e2 : (-(n : Int)).tdiv 10 = -((n / 10 : Nat) : Int) := by rw [Int.neg_tdiv]; simp
  have e3 : (48 : Int) - -((n % 10 : Nat) : Int) = 48 + ((n % 10 : Nat) : Int) := by omega
  go_enter Tryd.func13, Tryd.ntmps13
  go_wp2_with fail
  go_loop [3, 4] (fun a b => ∃ (m : Nat) (s : ByteArray), m ≤ n ∧ a = .string s ∧ b = .int .i64 (-(m : Int)) ∧ Hid (DigAt n m s)) (fun _ b => (-(intOf b)).toNat)
  case atStart => exact ⟨n / 10, _, by omega, rfl, by simp, Lib.hid (dig_start n _ (by have := enc_digit (n % 10) (by omega); simpa using this))⟩
  case round =>
    obtain ⟨m, s, hm, rfl, rfl, HD⟩ := hrel
    have z1 := enc_small m
    have z2 := dig_small n m s (by omega) HD.out
    clear e1 e2 e3
    cases hz : ((-(m : Int)) != 0)
    · have hm0 : m = 0 := by simp at hz; omega
      subst hm0
      go_wp2_with fail
      go_ret
      exact ⟨_, rfl, by rw [extract_append, dig_end n s HD.out]; rfl, rfl⟩
    · have hm0 : m ≠ 0 := by simp at hz; omega
      have HM0 := Lib.hid hm0
      have e1 : (-(m : Int)).tmod 10 = -((m % 10 : Nat) : Int) := neg_tmod10 m
      have e2 : (-(m : Int)).tdiv 10 = -((m / 10 : Nat) : Int) := by rw [Int.neg_tdiv]; simp
      have e3 : (48 : Int) - -((m % 10 : Nat) : Int) = 48 + ((m % 10 : Nat) : Int) := by omega
      clear hm0
      go_wp2_with fail
      go_round
      case rel => exact ⟨m / 10, _, by omega, rfl, by simp, Lib.hid (dig_step n m s _ HD.out HM0.out (by have := enc_digit (m % 10) (by omega); rw [extract_append]; simp at this; simp [this]))⟩
      case measure => have := HM0.out; simp [intOf]; omega

/-- **Digits of the reference** -/
theorem refDigits_any (n : Int) (h0 : -9223372036854775808 ≤ n) (h1 : n ≤ 9223372036854775807) (w : World) :
    Calls Tryd.prog 13 #[.int .i64 n] w fun e W => e = .returned (.string ⟨(Lib.itoa n).toArray⟩) ∧ w = W := by
  have key : ∀ (s : ByteArray) (l : Bs), s.data.toList = l → s = ⟨l.toArray⟩ := by
    intro s l h; subst h; rfl
  by_cases hn : n < 0
  · obtain ⟨u, rfl⟩ : ∃ u : Nat, n = -(u : Int) := ⟨n.natAbs, by omega⟩
    refine (refDigits_neg u (by omega) (by omega) w).mono ?_
    rintro e W ⟨s, rfl, hs, hW⟩
    refine ⟨?_, hW⟩
    rw [key s _ hs]
    unfold Lib.itoa; rw [if_pos hn]; simp
  · obtain ⟨u, rfl⟩ : ∃ u : Nat, n = (u : Int) := ⟨n.toNat, by omega⟩
    refine (refDigits_pos u (by omega) w).mono ?_
    rintro e W ⟨s, rfl, hs, hW⟩
    refine ⟨?_, hW⟩
    rw [key s _ hs]
    unfold Lib.itoa; rw [if_neg hn]; simp

/-- **Digits** -/
theorem digits_any (n : Int) (h0 : -9223372036854775808 ≤ n) (h1 : n ≤ 9223372036854775807) (w : World) (he : Env w) :
    Calls Tryd.prog 11 #[.int .i64 n] w fun e W => e = .returned (.string ⟨(Lib.itoa n).toArray⟩) ∧ Below w.heap.size w W := by
  have HE := Lib.hid he
  clear he
  go_enter Tryd.func11, Tryd.ntmps11
  go_wp2_with fail
  refine (itoa_any n h0 h1 _ HE.out).mono ?_
  rintro e W1 ⟨rfl, hb1⟩
  go_wp2_with fail
  go_ret
  exact ⟨rfl, hb1⟩

set_option maxRecDepth 100000 in
set_option maxHeartbeats 4000000 in
/-- **LexNumbers** -/
theorem lexNumbers_any (n : Int) (h0 : -9223372036854775808 ≤ n) (h1 : n ≤ 9223372036854775807) (w : World) (he : Env w) :
    Calls Tryd.prog 3 #[.int .i64 n] w fun e W => e = .returned (.bool true) ∧ Below w.heap.size w W := by
  have HE := Lib.hid he
  have hl := Lib.itoa_length_le n h0 h1
  have hk := qKind_itoa n h0 h1
  have hn := qNum_itoa n h0 h1
  obtain ⟨s, hs⟩ : ∃ s : ByteArray, (⟨(Lib.itoa n).toArray⟩ : ByteArray) = s := ⟨_, rfl⟩
  have hsl : s.data.toList = Lib.itoa n := by rw [← hs]
  have hsz : s.size ≤ 21 := by have := congrArg List.length hsl; simp only [Array.length_toList, ByteArray.size_data] at this; omega
  rw [← hsl] at hk hn
  have HS := Lib.hid hs
  have HK := Lib.hid hk
  have HQ := Lib.hid hn
  clear he hs hsl hk hn hl
  go_enter Tryd.func3, Tryd.ntmps3
  go_wp2_with fail
  refine (sane_any _ HE.out).mono ?_
  rintro e W1 ⟨rfl, hb1⟩
  have HB1 := Lib.hid hb1
  have HE1 := Lib.hid (HE.out.below hb1)
  clear hb1
  go_wp2_with fail
  refine (digits_any n h0 h1 _ HE1.out).mono ?_
  rintro e W2 ⟨rfl, hb2⟩
  rw [HS.out]
  have HB2 := Lib.hid (bt HB1.out hb2)
  have HE2 := Lib.hid (HE1.out.below hb2)
  clear hb2
  go_wp2_with fail
  refine (number_any s (by unfold maxLen; omega) _ HE2.out).mono ?_
  rintro e W3 ⟨rfl, hb3⟩
  rw [if_pos HK.out, HQ.out]
  have HB3 := Lib.hid (bt HB2.out hb3)
  have HE3 := Lib.hid (HE2.out.below hb3)
  clear hb3
  go_wp2_with fail
  refine (refDigits_any n h0 h1 _).mono ?_
  rintro e W4 ⟨rfl, rfl⟩
  rw [HS.out]
  go_wp2_with fail
  refine (kind_any s (by unfold maxLen; omega) _ HE3.out).mono ?_
  rintro e W4 ⟨rfl, hb4⟩
  rw [HK.out]
  have HB4 := Lib.hid (bt HB3.out hb4)
  clear hb4
  go_wp2_with fail
  go_ret
  exact ⟨rfl, HB4.out⟩
end Go.Proofs.YtdfkkeeohbgmbaaDoor
