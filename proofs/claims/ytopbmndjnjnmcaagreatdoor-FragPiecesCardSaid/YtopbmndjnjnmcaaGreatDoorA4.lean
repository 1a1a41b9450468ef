/- Package lex: the methods of cursor, and isColon. -/
import Derived.WalkKit
import Derived.WalkLawsBesides
import Derived.Lib.Hide
import Derived.BigRegion
import Derived.BigQuiet
import Derived.Deep.QuietTactic
import Derived.ChangeAlike
import Derived.RegionTactic
import Derived.Deep.RegionHeld3
import Derived.Test.YtopbmndjnjnmcaaGreatDoorA3
import Derived.Test.YtopbmndjnjnmcaaGreatDoorShelf
namespace Go.Proofs.YtopbmndjnjnmcaaGreatDoor
open Go.RowKit Lx

theorem hasPrefix_take (l p : Bs) : Lib.hasPrefix l p = (l.take p.length == p) := by
  unfold Lib.hasPrefix
  rw [Bool.eq_iff_iff, List.isPrefixOf_iff_prefix, List.prefix_iff_eq_take, beq_iff_eq]
  exact eq_comm

theorem isColon_any (s : ByteArray) (w : World) :
    Calls Tryz.prog 193 #[.string s] w fun e w' => e = .returned (.bool (qColon s.data.toList)) ∧ w = w' := by
  have e1 : qColon s.data.toList = (Lib.hasPrefix s.data.toList [58] && !Lib.hasPrefix s.data.toList [58, 58] && !Lib.hasPrefix s.data.toList [58, 61]) := by
    simp only [hasPrefix_take, qColon]
    cases s.data.toList with
    | nil => rfl
    | cons a t =>
      by_cases h : a = 58
      · subst h; cases t <;> simp
      · have h' : (a == 58) = false := by simpa using h
        cases t <;> simp [h']
  rw [e1]
  go_enter Tryz.func193, Tryz.ntmps193
  go_wp2_with (go_at_call 172; refine (Tryz.strings_HasPrefix _ _ _).mono ?_; rintro e w' ⟨rfl, rfl⟩)
  all_goals (go_ret; exact ⟨by simp [*], rfl⟩)

theorem rest_any (s : ByteArray) (b i : Nat) (hi : i ≤ s.size) (w : World) (h0 : w.cell? ⟨b, 0, none⟩ = some (.string s)) (h1 : w.cell? ⟨b, 1, none⟩ = some (.int .i64 i)) :
    Calls Tryz.prog 158 #[.pointer (some ⟨b, 0, none⟩)] w fun e w' => e = .returned (.string (s.extract i s.size)) ∧ ∃ n, w' = w.drewN n := by
  go_enter Tryz.func158, Tryz.ntmps158
  go_wp2
  go_quiet (fail)
  go_wp2
  go_ret
  exact ⟨rfl, _, rfl⟩

theorem reach_any (s : ByteArray) (b i : Nat) (hi : i ≤ s.size) (hs : s.size ≤ 20000) (w : World) (h0 : w.cell? ⟨b, 0, none⟩ = some (.string s)) (h1 : w.cell? ⟨b, 1, none⟩ = some (.int .i64 i)) :
    Calls Tryz.prog 191 #[.pointer (some ⟨b, 0, none⟩)] w fun e w' => e = .returned (.string (s.extract i (min (i + 100) s.size))) ∧ ∃ n, w' = w.drewN n := by
  obtain ⟨m, hm, h2, h3⟩ : ∃ m, min (i + 100) s.size = m ∧ i ≤ m ∧ m ≤ s.size := ⟨_, rfl, by omega, by omega⟩
  have hw : min (IntKind.i64.wrap ((i : Int) + 100)) (s.size : Int) = (m : Int) := by
    rw [IntWalk.i64_in _ (by omega)]; omega
  rw [hm]
  clear hm
  go_enter Tryz.func191, Tryz.ntmps191
  go_wp2
  go_quiet (fail)
  go_wp2
  go_ret
  exact ⟨rfl, _, rfl⟩

theorem done_any (s : ByteArray) (b i : Nat) (w : World) (h0 : w.cell? ⟨b, 0, none⟩ = some (.string s)) (h1 : w.cell? ⟨b, 1, none⟩ = some (.int .i64 i)) :
    Calls Tryz.prog 141 #[.pointer (some ⟨b, 0, none⟩)] w fun e w' => e = .returned (.bool (decide (i = s.size))) ∧ ∃ n, w' = w.drewN n := by
  go_enter Tryz.func141, Tryz.ntmps141
  go_wp2
  go_quiet (fail)
  go_wp2
  go_ret
  exact ⟨congrArg (fun x => Ending.returned (.bool x)) (by rw [Bool.eq_iff_iff]; simp; omega), _, rfl⟩

set_option maxHeartbeats 1000000 in
theorem in_yes (s : ByteArray) (b i k n m : Nat) (hk : k < 8) (hm : i + n = m) (hi : m < s.size) (hs : s.size ≤ 20000) (w : World) (h0 : w.cell? ⟨b, 0, none⟩ = some (.string s)) (h1 : w.cell? ⟨b, 1, none⟩ = some (.int .i64 i)) :
    Calls Tryz.prog 182 #[.pointer (some ⟨b, 0, none⟩), .int .i64 k, .int .i64 n] w fun e w' => e = .returned (.bool (qCls k s[m].toNat)) ∧ Below w.heap.size w w' := by
  have lb := World.block_lt_of_cell? w _ h0
  have hidx := fun n w => idx_cls n k hk w
  have hw0 : IntKind.i64.wrap ((i : Int) + (n : Int)) = (m : Int) := by rw [IntWalk.i64_in _ (by omega)]; omega
  have hd : decide (m < s.size) = true := by simp; omega
  have hm0 : (0 : Int) ≤ (m : Int) := by omega
  have hm1 : (m : Int) < (s.size : Int) := by omega
  clear hm hs
  go_enter Tryz.func182, Tryz.ntmps182
  go_wp2
  go_region_held3 (fun w' => w'.cell? ⟨b, 0, none⟩ = some (.string s) ∧ w'.cell? ⟨b, 1, none⟩ = some (.int .i64 i)) (first | go_keep) (first | (go_at_call 175; refine (classesOf_any _ _).mono ?_; rintro e w' ⟨rfl, rfl⟩))
  go_wp2
  go_ret
  exact ⟨rfl, below_drewN ((Below.refl _ _).alloc (Nat.le_refl _) _) 1⟩

set_option maxHeartbeats 1000000 in
theorem in_no (s : ByteArray) (b i k n : Nat) (hi : i ≤ s.size) (hn : n ≤ 100) (hi2 : s.size ≤ i + n) (hs : s.size ≤ 20000) (w : World) (h0 : w.cell? ⟨b, 0, none⟩ = some (.string s)) (h1 : w.cell? ⟨b, 1, none⟩ = some (.int .i64 i)) :
    Calls Tryz.prog 182 #[.pointer (some ⟨b, 0, none⟩), .int .i64 k, .int .i64 n] w fun e w' => e = .returned (.bool false) ∧ Below w.heap.size w w' := by
  obtain ⟨m, hm⟩ : ∃ m, i + n = m := ⟨_, rfl⟩
  have hw0 : IntKind.i64.wrap ((i : Int) + (n : Int)) = (m : Int) := by rw [IntWalk.i64_in _ (by omega)]; omega
  have hd : decide (m < s.size) = false := by simp; omega
  clear hm hs hi hi2
  go_enter Tryz.func182, Tryz.ntmps182
  go_wp2
  go_quiet (fail)
  go_wp2
  go_ret
  exact ⟨rfl, below_drewN (Below.refl _ _) _⟩

/-- The cursor of a cutter in memory. -/
def Cut (w : World) (b : Nat) (s : ByteArray) (i t : Nat) (op : Bool) : Prop :=
  w.cell? ⟨b, 0, none⟩ = some (.string s) ∧ w.cell? ⟨b, 1, none⟩ = some (.int .i64 (i : Int)) ∧ w.cell? ⟨b, 2, none⟩ = some (.int .i64 (t : Int)) ∧ w.cell? ⟨b, 3, none⟩ = some (.bool op)
theorem Cut.lt {w : World} {b : Nat} {s : ByteArray} {i t : Nat} {op : Bool} (h : Cut w b s i t op) : b < w.heap.size := World.block_lt_of_cell? w _ h.1
theorem Cut.below {w w' : World} {b : Nat} {s : ByteArray} {i t : Nat} {op : Bool} (h : Cut w b s i t op) (hb : Below w.heap.size w w') : Cut w' b s i t op :=
  ⟨(hb.cell (p := ⟨b, 0, none⟩) h.lt).trans h.1, (hb.cell (p := ⟨b, 1, none⟩) h.lt).trans h.2.1, (hb.cell (p := ⟨b, 2, none⟩) h.lt).trans h.2.2.1, (hb.cell (p := ⟨b, 3, none⟩) h.lt).trans h.2.2.2⟩

theorem ext_list (r : ByteArray) (m : Nat) : (r.extract m r.size).data.toList = r.data.toList.drop m := by
  rw [Lib.extract_data, List.take_of_length_le (by simp)]
theorem ext_le (r : ByteArray) (m : Nat) : (r.extract m r.size).size ≤ r.size := by simp

/-- The class of the byte at an index, no class behind the end. -/
def qAt (k : Nat) (l : Bs) (j : Nat) : Bool := match l[j]? with | some b => qCls k b.toNat | none => false
theorem qAt_lt (k : Nat) (s : ByteArray) (j : Nat) (h : j < s.size) : qAt k s.data.toList j = qCls k s[j].toNat := by
  unfold qAt; rw [List.getElem?_eq_getElem (by simpa using h)]; rfl
theorem qAt_ge (k : Nat) (s : ByteArray) (j : Nat) (h : s.size ≤ j) : qAt k s.data.toList j = false := by
  unfold qAt; rw [List.getElem?_eq_none (by simpa using h)]

/-- **(*cursor).in** -/
theorem in_any (s : ByteArray) (b i k n : Nat) (hk : k < 8) (hi : i ≤ s.size) (hn : n ≤ 100) (hs : s.size ≤ 20000) (w : World) (h0 : w.cell? ⟨b, 0, none⟩ = some (.string s)) (h1 : w.cell? ⟨b, 1, none⟩ = some (.int .i64 i)) :
    Calls Tryz.prog 182 #[.pointer (some ⟨b, 0, none⟩), .int .i64 k, .int .i64 n] w fun e w' => e = .returned (.bool (qAt k s.data.toList (i + n))) ∧ Below w.heap.size w w' := by
  by_cases h : i + n < s.size
  · rw [qAt_lt k s _ h]; exact in_yes s b i k n _ hk rfl h hs w h0 h1
  · rw [qAt_ge k s _ (by omega)]; exact in_no s b i k n hi hn (by omega) hs w h0 h1

/-- **(*cursor).reach** -/
theorem reach_r (s : ByteArray) (b i : Nat) (hi : i < s.size) (hs : s.size ≤ 20000) (w : World) (h0 : w.cell? ⟨b, 0, none⟩ = some (.string s)) (h1 : w.cell? ⟨b, 1, none⟩ = some (.int .i64 i)) :
    Calls Tryz.prog 191 #[.pointer (some ⟨b, 0, none⟩)] w fun e w' => ∃ (r : ByteArray) (n : Nat), e = .returned (.string r) ∧ w' = w.drewN n ∧ Hid (r.data.toList = (s.data.toList.drop i).take 100) ∧ 0 < r.size ∧ r.size ≤ 100 := by
  refine (reach_any s b i (by omega) hs w h0 h1).mono ?_
  rintro e w' ⟨rfl, n, rfl⟩
  have hl : (s.extract i (min (i + 100) s.size)).data.toList = (s.data.toList.drop i).take 100 := by
    rw [Lib.extract_data]
    by_cases h : i + 100 ≤ s.size
    · rw [show min (i + 100) s.size - i = 100 by omega]
    · rw [List.take_of_length_le (by simp; omega), List.take_of_length_le (by simp; omega)]
  exact ⟨_, n, rfl, rfl, Lib.hid hl, by simp; omega, by simp; omega⟩

theorem plain_r (s : ByteArray) (hs : s.size ≤ maxLen) (w : World) :
    Calls Tryz.prog 192 #[.string s] w fun e w' => ∃ m : Nat, e = .returned (.int .i64 m) ∧ Hid (qPlain s.data.toList = m) ∧ m ≤ s.size ∧ Below w.heap.size w w' :=
  (plain_any s hs w).mono fun _ _ ⟨he, hb⟩ => ⟨_, he, Lib.hid rfl, by have := qGo_le s.data.toList 0 0 false (by omega); simpa [qPlain] using this, hb⟩
theorem plain_ex (r : ByteArray) (m : Nat) (hm : m ≤ r.size) (hs : r.size ≤ 20000) (w : World) :
    Calls Tryz.prog 192 #[.string (r.extract m r.size)] w fun e w' => ∃ k : Nat, e = .returned (.int .i64 k) ∧ Hid (qPlain (r.data.toList.drop m) = k) ∧ m + k ≤ r.size ∧ Below w.heap.size w w' :=
  (plain_r (r.extract m r.size) (by have := ext_le r m; unfold maxLen; omega) w).mono fun _ _ ⟨k, he, hk, hl, hb⟩ => ⟨k, he, by rw [← ext_list]; exact hk, by simp at hl; omega, hb⟩
theorem isColon_ex (r : ByteArray) (m : Nat) (w : World) :
    Calls Tryz.prog 193 #[.string (r.extract m r.size)] w fun e w' => e = .returned (.bool (qColon (r.data.toList.drop m))) ∧ w = w' :=
  (isColon_any (r.extract m r.size) w).mono fun _ _ ⟨he, hb⟩ => ⟨by rw [← ext_list]; exact he, hb⟩
theorem run5_ex (r : ByteArray) (m : Nat) (hm : m ≤ r.size) (hs : r.size ≤ 20000) (w : World) :
    Calls Tryz.prog 157 #[.string (r.extract m r.size), .int .i64 5] w fun e w' => ∃ k : Nat, e = .returned (.int .i64 k) ∧ Hid (qRun 5 (r.data.toList.drop m) = k) ∧ m + k ≤ r.size ∧ Below w.heap.size w w' :=
  (run_5 (r.extract m r.size) (by have := ext_le r m; unfold maxLen; omega) w).mono fun _ _ ⟨he, hb⟩ => ⟨qRun 5 (r.data.toList.drop m), by rw [← ext_list]; exact he, Lib.hid rfl, by have := qRun_le 5 (r.data.toList.drop m); simp at this; omega, hb⟩
theorem run1_ex (r : ByteArray) (m : Nat) (hm : m ≤ r.size) (hs : r.size ≤ 20000) (w : World) :
    Calls Tryz.prog 157 #[.string (r.extract m r.size), .int .i64 1] w fun e w' => ∃ k : Nat, e = .returned (.int .i64 k) ∧ Hid (qRun 1 (r.data.toList.drop m) = k) ∧ m + k ≤ r.size ∧ Below w.heap.size w w' :=
  (run_1 (r.extract m r.size) (by have := ext_le r m; unfold maxLen; omega) w).mono fun _ _ ⟨he, hb⟩ => ⟨qRun 1 (r.data.toList.drop m), by rw [← ext_list]; exact he, Lib.hid rfl, by have := qRun_le 1 (r.data.toList.drop m); simp at this; omega, hb⟩
theorem run7_any (r : ByteArray) (hs : r.size ≤ 20000) (w : World) :
    Calls Tryz.prog 157 #[.string r, .int .i64 7] w fun e w' => ∃ k : Nat, e = .returned (.int .i64 k) ∧ Hid (qRun 7 r.data.toList = k) ∧ k ≤ r.size ∧ Below w.heap.size w w' :=
  (run_7 r (by unfold maxLen; omega) w).mono fun _ _ ⟨he, hb⟩ => ⟨qRun 7 r.data.toList, he, Lib.hid rfl, by have := qRun_le 7 r.data.toList; simpa using this, hb⟩
theorem hasPrefix_ex (r p : ByteArray) (m : Nat) (w : World) :
    Calls Tryz.prog 172 #[.string (r.extract m r.size), .string p] w fun e w' => e = .returned (.bool ((r.data.toList.drop m).take p.size == p.data.toList)) ∧ w = w' :=
  (Tryz.strings_HasPrefix (r.extract m r.size) p w).mono fun _ _ ⟨he, hb⟩ => ⟨by rw [he, ext_list, hasPrefix_take]; rfl, hb.symm⟩
theorem hasPrefix_r (r p : ByteArray) (w : World) :
    Calls Tryz.prog 172 #[.string r, .string p] w fun e w' => e = .returned (.bool (r.data.toList.take p.size == p.data.toList)) ∧ w = w' :=
  (Tryz.strings_HasPrefix r p w).mono fun _ _ ⟨he, hb⟩ => ⟨by rw [he, hasPrefix_take]; rfl, hb.symm⟩
end Go.Proofs.YtopbmndjnjnmcaaGreatDoor
