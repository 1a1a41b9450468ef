/- Package lex: nested comments. -/
import Derived.WalkKit
import Derived.WalkLawsBesides
import Derived.WalkSpells
import Derived.WalkSmall
import Derived.Lib.Hide
import Derived.BigQuiet
import Derived.Deep.QuietTactic
import Derived.Test.YtopbmndjnjnmcaaGreatDoorA10
namespace Go.Proofs.YtopbmndjnjnmcaaGreatDoor
open Go.RowKit Lx

/-- How a comment of the second sort ends: an error, and how much it takes. -/
def qNestGo : Bs → Nat → Nat → Nat × Nat
  | a :: b :: t, i, op =>
    if ([a, b] == [47, 42]) = true then (if op = 100 then (6, 0) else qNestGo t (i + 2) (op + 1))
    else if ([a, b] == [42, 47]) = true then (if op = 1 then (0, i + 2) else qNestGo t (i + 2) (op - 1))
    else qNestGo (b :: t) (i + 1) op
  | [_], _, _ => (13, 0)
  | [], _, _ => (13, 0)

def qNest (l : Bs) : Nat × Nat := qNestGo l 0 0

theorem drop2 (r : ByteArray) (i : Nat) (h : i + 2 ≤ r.size) : r.data.toList.drop i = r[i] :: r[i + 1] :: r.data.toList.drop (i + 2) := by
  rw [List.drop_eq_getElem_cons (by simp; omega), List.drop_eq_getElem_cons (i := i + 1) (by simp; omega)]
  rfl
theorem ext2 (r : ByteArray) (i : Nat) (h : i + 2 ≤ r.size) : (r.extract i (i + 2)).toList = [r[i], r[i + 1]] := by
  rw [Lib.extract_toList, drop2 r i h, show i + 2 - i = 2 by omega]; rfl

theorem nest_open (r : ByteArray) (i op : Nat) (h : i + 2 ≤ r.size) (h1 : ((r.extract i (i + 2)).toList == [47, 42]) = true) :
    qNestGo (r.data.toList.drop i) i op = if op = 100 then (6, 0) else qNestGo (r.data.toList.drop (i + 2)) (i + 2) (op + 1) := by
  rw [ext2 r i h] at h1
  rw [drop2 r i h, qNestGo, if_pos h1]
theorem nest_shut (r : ByteArray) (i op : Nat) (h : i + 2 ≤ r.size) (h1 : ((r.extract i (i + 2)).toList == [47, 42]) = false) (h2 : ((r.extract i (i + 2)).toList == [42, 47]) = true) :
    qNestGo (r.data.toList.drop i) i op = if op = 1 then (0, i + 2) else qNestGo (r.data.toList.drop (i + 2)) (i + 2) (op - 1) := by
  rw [ext2 r i h] at h1 h2
  rw [drop2 r i h, qNestGo, if_neg (by simp [h1]), if_pos h2]
theorem nest_on (r : ByteArray) (i op : Nat) (h : i + 2 ≤ r.size) (h1 : ((r.extract i (i + 2)).toList == [47, 42]) = false) (h2 : ((r.extract i (i + 2)).toList == [42, 47]) = false) :
    qNestGo (r.data.toList.drop i) i op = qNestGo (r.data.toList.drop (i + 1)) (i + 1) op := by
  rw [ext2 r i h] at h1 h2
  rw [drop2 r i h, qNestGo, if_neg (by simp [h1]), if_neg (by simp [h2])]
  congr 1
  rw [List.drop_eq_getElem_cons (i := i + 1) (by simp; omega)]; rfl
theorem nest_end (r : ByteArray) (i op : Nat) (h : r.size < i + 2) : qNestGo (r.data.toList.drop i) i op = (13, 0) := by
  have hl : (r.data.toList.drop i).length ≤ 1 := by simp; omega
  match r.data.toList.drop i, hl with
  | [], _ => rfl
  | [a], _ => rfl

/-- An end with an error, or with a length. -/
def endLen (p : Nat × Nat) (i : Nat) : Ending := if p.1 = 0 then .returned (.int .i64 (p.2 : Int)) else refusal p.1 i

set_option maxHeartbeats 2000000 in
theorem nested_any (r s : ByteArray) (b i0 t : Nat) (op0 : Bool) (hs : r.size ≤ 20000) (hr : ((r.extract 0 2).toList == [47, 42]) = true) (w : World) (hc : Cut w b s i0 t op0) :
    Calls Tryz.prog 174 #[.pointer (some ⟨b, 0, none⟩), .string r] w fun e w' => e = endLen (qNest r.data.toList) i0 ∧ w = w' := by
  have HC := Lib.hid hc
  have HR := Lib.hid hr
  clear hc hr
  go_enter Tryz.func174, Tryz.ntmps174
  go_wp2
  go_loop [5, 6] (fun o x => ∃ (i op : Nat), i ≤ r.size ∧ o = .int .i64 op ∧ x = .int .i64 i ∧ op ≤ 100 ∧ (i = 0 ∨ 1 ≤ op) ∧ (i = 0 → op = 0) ∧ Hid (qNest r.data.toList = qNestGo (r.data.toList.drop i) i op)) (fun _ x => r.size - (intOf x).toNat)
  case atStart => exact ⟨0, 0, by omega, rfl, rfl, by omega, by omega, by omega, Lib.hid rfl⟩
  case round =>
    obtain ⟨i, op, hi, rfl, rfl, hop, hor, hz, hN⟩ := hrel
    by_cases hlt : i + 2 ≤ r.size
    · cases h1 : ((r.extract i (i + 2)).toList == [47, 42])
      · have hi1 : 1 ≤ op := by
          rcases hor with h0 | h0
          · subst h0; rw [HR.out] at h1; cases h1
          · exact h0
        cases h2 : ((r.extract i (i + 2)).toList == [42, 47])
        · have hN2 := Lib.hid (hN.out.trans (nest_on r i op hlt h1 h2))
          go_wp2_with fail
          go_round
          case rel => exact ⟨i + 1, op, by omega, rfl, by go_num, hop, .inr hi1, by omega, hN2⟩
          case measure => simp [intOf]; omega
        · have hN2 := Lib.hid (hN.out.trans (nest_shut r i op hlt h1 h2))
          cases ho : (((op : Int) - 1) == 0)
          · have hN3 := Lib.hid (hN2.out.trans (if_neg (by simp at ho; omega)))
            have ho2 : 2 ≤ op := by simp at ho; omega
            go_wp2_with fail
            go_round
            case rel => exact ⟨i + 2, op - 1, by omega, by rw [show ((op - 1 : Nat) : Int) = (op : Int) - 1 by omega], by rw [show ((i + 2 : Nat) : Int) = (i : Int) + 1 + 1 by omega], by omega, .inr (by omega), by omega, hN3⟩
            case measure => simp [intOf]; omega
          · have hN3 := Lib.hid (hN2.out.trans (if_pos (by simp at ho; omega)))
            go_wp2_with fail
            go_ret
            exact ⟨by unfold endLen; rw [hN3.out, if_pos rfl]; exact ret_int (by show (i : Int) + 1 + 1 = ((i + 2 : Nat) : Int); omega), rfl⟩
      · have hN2 := Lib.hid (hN.out.trans (nest_open r i op hlt h1))
        cases ho : ((op : Int) == 100)
        · have hN3 := Lib.hid (hN2.out.trans (if_neg (by simp at ho; omega)))
          have ho2 : op ≤ 99 := by simp at ho; omega
          go_wp2_with fail
          go_round
          case rel => exact ⟨i + 2, op + 1, by omega, by go_num, by rw [show ((i + 2 : Nat) : Int) = (i : Int) + 1 + 1 by omega], by omega, .inr (by omega), by omega, hN3⟩
          case measure => simp [intOf]; omega
        · have hN3 := Lib.hid (hN2.out.trans (if_pos (by simp at ho; omega)))
          go_wp2_with fail
          refine (refuse_any s b i0 t op0 _ _ HC.out).mono ?_
          rintro e w' ⟨rfl, rfl⟩
          go_wp2_with fail
          exact ⟨rfl, by unfold endLen; rw [hN3.out]; rfl, rfl⟩
    · have hN2 := Lib.hid (hN.out.trans (nest_end r i op (by omega)))
      go_wp2_with fail
      refine (refuse_any s b i0 t op0 _ _ HC.out).mono ?_
      rintro e w' ⟨rfl, rfl⟩
      go_wp2_with fail
      exact ⟨rfl, by unfold endLen; rw [hN2.out]; rfl, rfl⟩

/-- The comment at the head: an error, and how much it takes. -/
def qComment (l : Bs) : Nat × Nat :=
  if (l.take 2 == [47, 47]) = true then (0, if (0 : Int) ≤ Lib.indexByte l 10 then (Lib.indexByte l 10).toNat else l.length)
  else if (l.take 2 == [47, 42]) = true then qNest l
  else (0, 0)
theorem qC_line (l : Bs) (h : (l.take 2 == [47, 47]) = true) : qComment l = (0, if (0 : Int) ≤ Lib.indexByte l 10 then (Lib.indexByte l 10).toNat else l.length) := if_pos h
theorem qC_nest (l : Bs) (h : (l.take 2 == [47, 47]) = false) (h2 : (l.take 2 == [47, 42]) = true) : qComment l = qNest l := (if_neg (by simp [h])).trans (if_pos h2)
theorem qC_none (l : Bs) (h : (l.take 2 == [47, 47]) = false) (h2 : (l.take 2 == [47, 42]) = false) : qComment l = (0, 0) := (if_neg (by simp [h])).trans (if_neg (by simp [h2]))

theorem endLen_cases (p : Nat × Nat) (i : Nat) : endLen p i = .returned (.int .i64 (p.2 : Int)) ∨ endLen p i = .panicked [{ v := .iface 161 (.agg #[.int .i64 p.1, .int .i64 i]), recovered := false }] := by
  by_cases h : p.1 = 0
  · exact .inl (if_pos h)
  · exact .inr (if_neg h)

set_option maxHeartbeats 2000000 in
theorem comment_any (s : ByteArray) (b i t : Nat) (op : Bool) (hi : i ≤ s.size) (hs : s.size ≤ 20000) (w : World) (hc : Cut w b s i t op) :
    Calls Tryz.prog 156 #[.pointer (some ⟨b, 0, none⟩)] w fun e w' => e = endLen (qComment (s.data.toList.drop i)) i ∧ Below w.heap.size w w' := by
  have HC := Lib.hid hc
  clear hc
  go_enter Tryz.func156, Tryz.ntmps156
  go_wp2_with fail
  refine (rest_r s b i t op hi _ HC.out).mono ?_
  rintro e w' ⟨r, n, rfl, rfl, hR, hz⟩
  have hb := bl w n
  have hz2 : r.size ≤ 20000 := by rw [hz.out]; omega
  cases h1 : (r.data.toList.take 2 == [47, 47])
  · cases h2 : (r.data.toList.take 2 == [47, 42])
    · have hv := Lib.hid (qC_none _ h1 h2)
      go_wp2_with (go_at_call 172; refine (hasPrefix_r _ _ _).mono ?_; rintro e w' ⟨rfl, rfl⟩)
      go_ret
      exact ⟨by rw [← hR.out, hv.out]; rfl, hb⟩
    · have hv := Lib.hid (qC_nest _ h1 h2)
      have hx : ((r.extract 0 2).toList == [47, 42]) = true := by rw [Lib.extract_toList]; simpa using h2
      go_wp2_with (go_at_call 172; refine (hasPrefix_r _ _ _).mono ?_; rintro e w' ⟨rfl, rfl⟩)
      refine (nested_any r s b i t op hz2 hx _ (HC.out.below hb)).mono ?_
      rintro e w' ⟨rfl, rfl⟩
      rcases endLen_cases (qNest r.data.toList) i with he | he
      · have HE := Lib.hid he
        rw [he]
        clear he
        go_wp2_with fail
        go_ret
        exact ⟨by rw [← hR.out, hv.out, HE.out]; rfl, hb⟩
      · have HE := Lib.hid he
        rw [he]
        clear he
        go_wp2_with fail
        exact ⟨rfl, by rw [← hR.out, hv.out, HE.out], hb⟩
  · have hv := Lib.hid (qC_line _ h1)
    have hlen : Hid (r.data.toList.length = r.size) := Lib.hid (by simp)
    by_cases hx : (0 : Int) ≤ Lib.indexByte r.data.toList 10
    · go_wp2_with (first | (go_at_call 172; refine (hasPrefix_r _ _ _).mono ?_; rintro e w' ⟨rfl, rfl⟩) | (go_at_call 173; refine (Tryz.strings_IndexByte _ _ _).mono ?_; rintro e w' ⟨rfl, rfl⟩))
      go_ret
      refine ⟨?_, hb⟩
      rw [← hR.out, hv.out, if_pos hx]
      unfold endLen; rw [if_pos rfl]; exact ret_int (by show _ = ((Int.toNat _ : Nat) : Int); rw [Int.toNat_of_nonneg hx])
    · go_wp2_with (first | (go_at_call 172; refine (hasPrefix_r _ _ _).mono ?_; rintro e w' ⟨rfl, rfl⟩) | (go_at_call 173; refine (Tryz.strings_IndexByte _ _ _).mono ?_; rintro e w' ⟨rfl, rfl⟩))
      go_ret
      refine ⟨?_, hb⟩
      rw [← hR.out, hv.out, if_neg (by omega)]
      unfold endLen; rw [if_pos rfl]; exact ret_int (by rw [hlen.out])
end Go.Proofs.YtopbmndjnjnmcaaGreatDoor
