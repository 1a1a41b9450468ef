/- Package lex: plain. -/
import Derived.WalkKit
import Derived.WalkLawsBesides
import Derived.Lib.Hide
import Derived.Test.YtopbmndjnjnmcaaGreatDoorA2
namespace Go.Proofs.YtopbmndjnjnmcaaGreatDoor
open Go.RowKit Lx

theorem classesOf_lit (n : Nat) (w : World) :
    Calls Tryz.prog 175 #[.int .u8 (n : Int)] w fun e w' => e = .returned (.agg #[.bool (cSmall n), .bool (cDigit n), .bool (cWord n), .bool (cFin n), .bool (cFront n), .bool (cPart n), .bool (cStuck n), .bool (cBlank n)]) ∧ w' = w.alloc (.cells #[.bool (cSmall n), .bool (cDigit n), .bool (cWord n), .bool (cFin n), .bool (cFront n), .bool (cPart n), .bool (cStuck n), .bool (cBlank n)] 211) := classesOf_any n w

theorem qGo_le (l : Bs) : ∀ i size letter, size ≤ i → qGo l i size letter ≤ i + l.length := by
  induction l with
  | nil => intro i size letter h; simpa [qGo] using h
  | cons b t ih =>
    intro i size letter h
    simp only [qGo]
    split
    · simp; omega
    · rename_i size' letter' he
      have : size' ≤ i + 1 := by
        unfold qStep at he; split at he
        · cases he
        · simp only [Option.some.injEq, Prod.mk.injEq] at he; rw [← he.1]; split <;> omega
      have := ih (i + 1) size' letter' this
      simp; omega

theorem qGo_step (s : ByteArray) (i size : Nat) (letter : Bool) (h : i < s.size) : qGo (s.data.toList.drop i) i size letter =
    (match qStep s[i] i size letter with | none => size | some (a, b) => qGo (s.data.toList.drop (i + 1)) (i + 1) a b) := by
  rw [List.drop_eq_getElem_cons (by simpa using h), qGo]
  rfl

theorem go_on (s : ByteArray) (i size size' : Nat) (letter letter' : Bool) (h : i < s.size) (hr : Hid (qPlain s.data.toList = qGo (s.data.toList.drop i) i size letter)) (hq : qStep s[i] i size letter = some (size', letter')) :
    Hid (qPlain s.data.toList = qGo (s.data.toList.drop (i + 1)) (i + 1) size' letter') := by
  have := hr.out; rw [qGo_step s i size letter h, hq] at this; exact Lib.hid this
theorem go_off (s : ByteArray) (i size : Nat) (letter : Bool) (h : i < s.size) (hr : Hid (qPlain s.data.toList = qGo (s.data.toList.drop i) i size letter)) (hq : qStep s[i] i size letter = none) :
    qPlain s.data.toList = size := by
  have := hr.out; rw [qGo_step s i size letter h, hq] at this; exact this

set_option maxHeartbeats 1000000 in
theorem plain_any (s : ByteArray) (hs : s.size ≤ maxLen) (w : World) :
    Calls Tryz.prog 192 #[.string s] w fun e w' => e = .returned (.int .i64 (qPlain s.data.toList : Nat)) ∧ Below w.heap.size w w' := by
  unfold maxLen at hs
  go_enter Tryz.func192, Tryz.ntmps192
  go_wp2
  go_loopw [3, 4, 9] (fun sz lt t wr => ∃ (i size : Nat) (letter : Bool), i ≤ s.size ∧ sz = .int .i64 size ∧ lt = .bool letter ∧ t = .int .i64 i ∧ Hid (qPlain s.data.toList = qGo (s.data.toList.drop i) i size letter) ∧ Below w.heap.size w wr) (fun _ _ t _ => s.size - (intOf t).toNat)
  case atStart => exact ⟨0, 0, false, by omega, rfl, rfl, rfl, Lib.hid rfl, Below.refl _ _⟩
  case round =>
    obtain ⟨i, size, letter, hi, rfl, rfl, rfl, hr, hb⟩ := hrel
    by_cases hlt : i < s.size
    · have hb1 := hb.alloc hb.size (.cells #[.bool (cSmall s[i].toNat), .bool (cDigit s[i].toNat), .bool (cWord s[i].toNat), .bool (cFin s[i].toNat), .bool (cFront s[i].toNat), .bool (cPart s[i].toNat), .bool (cStuck s[i].toNat), .bool (cBlank s[i].toNat)] 211)
      have hb2 := hb1.alloc hb1.size (.cells #[.bool (cSmall s[i].toNat), .bool (cDigit s[i].toNat), .bool (cWord s[i].toNat), .bool (cFin s[i].toNat), .bool (cFront s[i].toNat), .bool (cPart s[i].toNat), .bool (cStuck s[i].toNat), .bool (cBlank s[i].toNat)] 211)
      by_cases h0 : i = 0
      · subst h0
        cases hW : cWord s[0].toNat <;> cases hS : cSmall s[0].toNat <;> cases hF : cFin s[0].toNat <;> cases hB : cFront s[0].toNat <;> cases letter
        all_goals
          rw [hW, hS, hF, hB] at hb2
          go_wp2_with (go_at_call 175; refine (classesOf_lit _ _).mono ?_; rintro e w' ⟨rfl, rfl⟩)
          first
            | (go_ret; exact ⟨ret_int (by rw [go_off s 0 size _ hlt hr (by simp [qStep, hW, hS, hB])]), hb2⟩)
            | (go_roundw
               case rel => exact ⟨1, _, _, by omega, rfl, rfl, rfl, go_on s 0 size _ _ _ hlt hr (by simp [qStep, hW, hS, hF, hB]), hb2⟩
               case measure => simp [intOf]; omega)
            | (go_roundw
               case rel => exact ⟨1, 1, _, by omega, rfl, rfl, rfl, go_on s 0 size _ _ _ hlt hr (by simp [qStep, hW, hS, hF, hB]), hb2⟩
               case measure => simp [intOf]; omega)
      · cases hW : cWord s[i].toNat <;> cases hS : cSmall s[i].toNat <;> cases hF : cFin s[i].toNat <;> cases letter
        all_goals
          rw [hW, hS, hF] at hb2
          go_wp2_with (go_at_call 175; refine (classesOf_lit _ _).mono ?_; rintro e w' ⟨rfl, rfl⟩)
          first
            | (go_ret; exact ⟨ret_int (by rw [go_off s i size _ hlt hr (by simp [qStep, hW])]), hb2⟩)
            | (go_roundw
               case rel => exact ⟨i + 1, _, _, by omega, rfl, rfl, by go_num, go_on s i size _ _ _ hlt hr (by simp [qStep, hW, hS, hF, h0]), hb2⟩
               case measure => simp [intOf]; omega)
            | (go_roundw
               case rel => exact ⟨i + 1, i + 1, _, by omega, by go_num, rfl, by go_num, go_on s i size _ _ _ hlt hr (by simp [qStep, hW, hS, hF, h0]), hb2⟩
               case measure => simp [intOf]; omega)
    · go_wp2
      go_ret
      exact ⟨ret_int (by rw [hr.out, List.drop_of_length_le (by simp; omega)]; simp [qGo]), hb⟩
end Go.Proofs.YtopbmndjnjnmcaaGreatDoor
