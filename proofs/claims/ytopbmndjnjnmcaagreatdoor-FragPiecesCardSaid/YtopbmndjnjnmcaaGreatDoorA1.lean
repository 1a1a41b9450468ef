/- Package lex: classesOf. -/
import Derived.WalkKit
import Derived.WalkLawsBesides
import Derived.Test.YtopbmndjnjnmcaaGreatDoorProg
import Derived.Test.YtopbmndjnjnmcaaGreatDoorPure0
namespace Go.Proofs.YtopbmndjnjnmcaaGreatDoor
open Go.RowKit Lx

/-- What classesOf answers. -/
def clsV (n : Nat) : Array Value := #[.bool (cSmall n), .bool (cDigit n), .bool (cWord n), .bool (cFin n), .bool (cFront n), .bool (cPart n), .bool (cStuck n), .bool (cBlank n)]

def special (n : Int) : Prop := n = 32 ∨ n = 9 ∨ n = 10 ∨ n = 13 ∨ n = 60 ∨ n = 37 ∨ n = 42 ∨ n = 36 ∨ n = 95 ∨ n = 33 ∨ n = 63 ∨ n = 38 ∨ n = 62 ∨ n = 124 ∨ n = 94 ∨ n = 126 ∨ n = 45 ∨ n = 43 ∨ n = 47 ∨ n = 61

set_option maxHeartbeats 2000000 in
theorem cls_a (n : Int) (w : World) (h : special n) :
    Calls Tryz.prog 175 #[.int .u8 n] w fun e w' => e = .returned (.agg (clsV n.toNat)) ∧ w' = w.alloc (.cells (clsV n.toNat) 211) := by
  unfold special at h
  rcases h with rfl | rfl | rfl | rfl | rfl | rfl | rfl | rfl | rfl | rfl | rfl | rfl | rfl | rfl | rfl | rfl | rfl | rfl | rfl | rfl
  all_goals
    go_enter Tryz.func175, Tryz.ntmps175
    go_wp2
    refine bodyPost_ret (v := .agg (clsV (Int.toNat _))) (by simp [results, Tryz.results175, go_sem]; rfl) rfl ⟨rfl, ?_⟩
    rfl

theorem cls_b (n : Int) (h1 : 97 ≤ n) (h2 : n ≤ 122) (w : World) :
    Calls Tryz.prog 175 #[.int .u8 n] w fun e w' => e = .returned (.agg #[.bool true, .bool false, .bool true, .bool true, .bool false, .bool true, .bool true, .bool false]) ∧ w' = w.alloc (.cells #[.bool true, .bool false, .bool true, .bool true, .bool false, .bool true, .bool true, .bool false] 211) := by
  go_enter Tryz.func175, Tryz.ntmps175
  go_wp2
  exact bodyPost_ret (v := .agg #[.bool true, .bool false, .bool true, .bool true, .bool false, .bool true, .bool true, .bool false]) (by simp [results, Tryz.results175, go_sem]) rfl ⟨rfl, rfl⟩

theorem cls_c (n : Int) (h1 : 48 ≤ n) (h2 : n ≤ 57) (w : World) :
    Calls Tryz.prog 175 #[.int .u8 n] w fun e w' => e = .returned (.agg #[.bool false, .bool true, .bool true, .bool true, .bool false, .bool true, .bool false, .bool false]) ∧ w' = w.alloc (.cells #[.bool false, .bool true, .bool true, .bool true, .bool false, .bool true, .bool false, .bool false] 211) := by
  go_enter Tryz.func175, Tryz.ntmps175
  go_wp2
  exact bodyPost_ret (v := .agg #[.bool false, .bool true, .bool true, .bool true, .bool false, .bool true, .bool false, .bool false]) (by simp [results, Tryz.results175, go_sem]) rfl ⟨rfl, rfl⟩

set_option maxHeartbeats 1000000 in
theorem cls_d (n : Int) (h1 : n < 97 ∨ 122 < n) (h2 : n < 48 ∨ 57 < n) (hs : ¬ special n) (w : World) :
    Calls Tryz.prog 175 #[.int .u8 n] w fun e w' => e = .returned (.agg #[.bool false, .bool false, .bool false, .bool false, .bool false, .bool false, .bool false, .bool false]) ∧ w' = w.alloc (.cells #[.bool false, .bool false, .bool false, .bool false, .bool false, .bool false, .bool false, .bool false] 211) := by
  unfold special at hs
  simp only [not_or] at hs
  obtain ⟨a1, a2, a3, a4, a5, a6, a7, a8, a9, a10, a11, a12, a13, a14, a15, a16, a17, a18, a19, a20⟩ := hs
  rcases h1 with h1 | h1 <;> rcases h2 with h2 | h2
  all_goals
    go_enter Tryz.func175, Tryz.ntmps175
    go_wp2
    first
      | exact bodyPost_ret (v := .agg #[.bool false, .bool false, .bool false, .bool false, .bool false, .bool false, .bool false, .bool false]) (by simp [results, Tryz.results175, go_sem]) rfl ⟨rfl, rfl⟩
      | go_show

theorem tab_b (n : Nat) (h1 : 97 ≤ n) (h2 : n ≤ 122) : clsV n = #[.bool true, .bool false, .bool true, .bool true, .bool false, .bool true, .bool true, .bool false] := by
  have : cSmall n = true := by simp [cSmall, h1, h2]
  have e1 : cDigit n = false := by simp [cDigit]; omega
  have e2 : cFront n = false := by simp [cFront]; omega
  have e3 : cBlank n = false := by simp [cBlank]; omega
  simp [clsV, this, e1, e2, e3, cWord, cFin, cPart, cStuck]

theorem tab_c (n : Nat) (h1 : 48 ≤ n) (h2 : n ≤ 57) : clsV n = #[.bool false, .bool true, .bool true, .bool true, .bool false, .bool true, .bool false, .bool false] := by
  have : cDigit n = true := by simp [cDigit, h1, h2]
  have e1 : cSmall n = false := by simp [cSmall]; omega
  have e2 : cFront n = false := by simp [cFront]; omega
  have e3 : cBlank n = false := by simp [cBlank]; omega
  have e4 : cStuck n = false := by simp [cStuck, e1]; omega
  simp [clsV, this, e1, e2, e3, e4, cWord, cFin, cPart]

theorem tab_d (n : Nat) (h1 : n < 97 ∨ 122 < n) (h2 : n < 48 ∨ 57 < n) (hs : ¬ special (n : Int)) : clsV n = #[.bool false, .bool false, .bool false, .bool false, .bool false, .bool false, .bool false, .bool false] := by
  unfold special at hs
  simp only [not_or] at hs
  obtain ⟨a1, a2, a3, a4, a5, a6, a7, a8, a9, a10, a11, a12, a13, a14, a15, a16, a17, a18, a19, a20⟩ := hs
  have e0 : cDigit n = false := by simp [cDigit]; omega
  have e1 : cSmall n = false := by simp [cSmall]; omega
  have e2 : cFront n = false := by simp [cFront]; omega
  have e3 : cBlank n = false := by simp [cBlank]; omega
  have e4 : cStuck n = false := by simp [cStuck, e1]; omega
  have e5 : cFin n = false := by simp [cFin, e0, e1]; omega
  have e6 : cWord n = false := by simp [cWord, e5]; omega
  have e7 : cPart n = false := by simp [cPart, e0, e1]; omega
  simp [clsV, e0, e1, e2, e3, e4, e5, e6, e7]

/-- **classesOf**: the eight classes of a byte, in a new block. -/
theorem classesOf_any (n : Nat) (w : World) :
    Calls Tryz.prog 175 #[.int .u8 (n : Int)] w fun e w' => e = .returned (.agg (clsV n)) ∧ w' = w.alloc (.cells (clsV n) 211) := by
  by_cases hs : special (n : Int)
  · exact cls_a n w hs
  · by_cases h1 : 97 ≤ n ∧ n ≤ 122
    · rw [tab_b n h1.1 h1.2]; exact cls_b n (by omega) (by omega) w
    · by_cases h2 : 48 ≤ n ∧ n ≤ 57
      · rw [tab_c n h2.1 h2.2]; exact cls_c n (by omega) (by omega) w
      · rw [tab_d n (by omega) (by omega) hs]; exact cls_d n (by omega) (by omega) hs w
end Go.Proofs.YtopbmndjnjnmcaaGreatDoor
