/- Package skerryref01: Find, member, longest, plain, signs, rules, begins, colon, allowed, blank, operand, comment. -/
import Derived.Test.YtopbmndjnjnmcaaGreatDoorA24
import Derived.Test.YtopbmndjnjnmcaaGreatDoorQ1
import Derived.Laws.MakeOwn
import Derived.BigQuiet
import Derived.Deep.QuietTactic
import Derived.Deep.AppendLies
import Derived.Deep.RegionHeld3
import Derived.Deep.RegionLaw
namespace Go.Proofs.YtopbmndjnjnmcaaGreatDoor
open Go.RowKit Lx

attribute [local go_sem] Oper.semAt_some

theorem first_byte (c : UInt8) : ∀ {v : Bs} {k : Nat}, v[k]? = some c → (∀ q : Nat, q < k → v[q]? ≠ some c) → Lib.indexByte v c = k
  | [], k, h, _ => by simp at h
  | a :: t, 0, h, _ => by
    simp at h; subst h; simp [Lib.indexByte]
  | a :: t, k + 1, h, hb => by
    have h0 := hb 0 (by omega)
    simp only [List.getElem?_cons_zero, ne_eq, Option.some.injEq] at h0
    have h1 := first_byte c (v := t) (k := k) (by simpa using h) (fun q hq => by have := hb (q + 1) (by omega); simpa using this)
    have hab : (a == c) = false := by simpa using h0
    simp only [Lib.indexByte, hab, h1, Bool.false_eq_true, if_false]
    rw [if_neg (by simp)]
    omega
theorem no_byte (c : UInt8) {v : Bs} (hb : ∀ q : Nat, v[q]? ≠ some c) : Lib.indexByte v c = -1 := by
  have hge := Lib.indexByte_ge v c
  rcases Int.lt_or_le (Lib.indexByte v c) 0 with h | h
  · omega
  · exact absurd (index_at v c h) (hb _)

theorem byte_get (s : ByteArray) (k : Nat) (h : k < s.size) : s.data.toList[k]? = some s[k] := by
  rw [List.getElem?_eq_getElem (by simpa using h)]; rfl

set_option maxHeartbeats 1000000 in
/-- **Find** -/
theorem find_any (s : ByteArray) (c : UInt8) (hs : s.size ≤ maxLen) (w : World) :
    Calls Tryz.prog 106 #[.string s, .int .u8 (c.toNat : Int)] w fun e W => e = .returned (.int .i64 (Lib.indexByte s.data.toList c)) ∧ W = w := by
  unfold maxLen at hs
  go_enter Tryz.func106, Tryz.ntmps106
  go_wp2_with fail
  go_loop [5] (fun x => ∃ k : Nat, k ≤ s.size ∧ x = .int .i64 k ∧ Hid (∀ q : Nat, q < k → s.data.toList[q]? ≠ some c)) (fun x => s.size - (intOf x).toNat)
  case atStart => exact ⟨0, by omega, rfl, Lib.hid (fun q hq => by omega)⟩
  case round =>
    obtain ⟨k, hk, rfl, HN⟩ := hrel
    by_cases hlt : k < s.size
    · have hd : decide (k < s.size) = true := by simpa using hlt
      have i0 : (0 : Int) ≤ (k : Int) := by omega
      have i1 : (k : Int) < (s.size : Int) := by omega
      have hb := byte_get s k hlt
      have HB := Lib.hid hb
      clear hb
      cases hc : ((s[k].toNat : Int) == (c.toNat : Int))
      · have hne : Hid (s[k] ≠ c) := Lib.hid (fun e => by rw [e] at hc; simp at hc)
        go_wp2_with fail
        go_round
        case rel => exact ⟨k + 1, by omega, rfl, Lib.hid (fun q hq => by
          by_cases h : q = k
          · subst h; rw [HB.out]; simpa using hne.out
          · exact HN.out q (by omega))⟩
        case measure => simp [intOf]; omega
      · have heq : s[k] = c := by simp at hc; exact UInt8.toNat_inj.1 (by omega)
        have hv : Hid (Lib.indexByte s.data.toList c = k) := Lib.hid (first_byte c (by rw [HB.out, heq]) HN.out)
        clear heq
        go_wp2_with fail
        go_ret
        exact ⟨by rw [hv.out]; rfl, rfl⟩
    · have hd : decide (k < s.size) = false := by simpa using hlt
      have hv : Hid (Lib.indexByte s.data.toList c = -1) := Lib.hid (no_byte c (fun q e => by
        have hq := (List.getElem?_eq_some_iff.1 e).1
        simp at hq
        exact HN.out q (by omega) e))
      go_wp2_with fail
      go_ret
      exact ⟨by rw [hv.out]; rfl, rfl⟩

theorem find_is (l : Bs) (b : UInt8) : decide ((0 : Int) ≤ Lib.indexByte l b) = l.contains b := by
  rw [Bool.eq_iff_iff, decide_eq_true_eq]; exact idx_mem l b
def bFin : ByteArray := ⟨#[33, 36, 38, 42, 60, 62, 124, 94, 37, 95, 126, 63]⟩
def bWord : ByteArray := ⟨#[33, 36, 38, 42, 60, 62, 124, 94, 37, 95, 126, 63, 43, 45, 47, 61]⟩
def bFront : ByteArray := ⟨#[60, 36, 37, 42, 95]⟩
theorem cont_nat : ∀ (l : Bs) (b : UInt8), l.contains b = (l.map UInt8.toNat).contains b.toNat
  | [], b => rfl
  | a :: t, b => by
    simp only [List.contains_cons, List.map_cons, cont_nat t b]
    congr 1
    rw [Bool.eq_iff_iff, beq_iff_eq, beq_iff_eq]
    exact ⟨fun h => by rw [h], fun h => UInt8.toNat_inj.1 h⟩
theorem find_fin (b : UInt8) : decide ((0 : Int) ≤ Lib.indexByte bFin.data.toList b) = [33, 36, 38, 42, 60, 62, 124, 94, 37, 95, 126, 63].contains b.toNat := by
  rw [find_is, cont_nat]; rfl
theorem find_word (b : UInt8) : decide ((0 : Int) ≤ Lib.indexByte bWord.data.toList b) = ([33, 36, 38, 42, 60, 62, 124, 94, 37, 95, 126, 63].contains b.toNat || [43, 45, 47, 61].contains b.toNat) := by
  rw [find_is, cont_nat, show bWord.data.toList.map UInt8.toNat = [33, 36, 38, 42, 60, 62, 124, 94, 37, 95, 126, 63] ++ [43, 45, 47, 61] from rfl]
  simp only [List.contains_eq_any_beq, List.any_append]
theorem find_front (b : UInt8) : decide ((0 : Int) ≤ Lib.indexByte bFront.data.toList b) = cFront b.toNat := by
  rw [find_is, cont_nat]
  unfold cFront
  rw [show bFront.data.toList.map UInt8.toNat = [60, 36, 37, 42, 95] from rfl]

/-- What member answers, by the two classes and the three searches. -/
def memB (c : Nat) (sm dg w f r e : Bool) (eq : Bool) : Bool :=
  if c = 76 then sm else if c = 68 then dg else if c = 87 then sm || dg || w else if c = 70 then sm || dg || f else if c = 66 then r else if c = 81 then sm || dg || e
  else if c = 65 then sm || dg else eq

theorem memB_other {c : Nat} {sm dg w f r e eq : Bool} (h : c ≠ 76 ∧ c ≠ 68 ∧ c ≠ 87 ∧ c ≠ 70 ∧ c ≠ 66 ∧ c ≠ 81 ∧ c ≠ 65) : memB c sm dg w f r e eq = eq := by
  obtain ⟨n1, n2, n3, n4, n5, n6, n7⟩ := h
  unfold memB; rw [if_neg n1, if_neg n2, if_neg n3, if_neg n4, if_neg n5, if_neg n6, if_neg n7]

theorem rMem_memB (c n : Nat) (b : UInt8) (hn : b.toNat = n) : rMem c n = memB c (cSmall n) (cDigit n) (decide ((0 : Int) ≤ Lib.indexByte bWord.data.toList b)) (decide ((0 : Int) ≤ Lib.indexByte bFin.data.toList b)) (decide ((0 : Int) ≤ Lib.indexByte bFront.data.toList b)) (n == 45) (n == c) := by
  rw [find_word, find_fin, find_front, hn]
  unfold rMem memB cWord cFin cPart
  simp only [Bool.or_assoc]

set_option maxRecDepth 100000 in
set_option maxHeartbeats 4000000 in
/-- member, by what the searches find -/
theorem member_z (c : Nat) (hc : c < 256) (n : Nat) (xw xf xr : Int) (w : World)
    (cw : ∀ W : World, Calls Tryz.prog 106 #[.string ⟨#[33, 36, 38, 42, 60, 62, 124, 94, 37, 95, 126, 63, 43, 45, 47, 61]⟩, .int .u8 (n : Int)] W fun e W' => e = .returned (.int .i64 xw) ∧ W' = W)
    (cf : ∀ W : World, Calls Tryz.prog 106 #[.string ⟨#[33, 36, 38, 42, 60, 62, 124, 94, 37, 95, 126, 63]⟩, .int .u8 (n : Int)] W fun e W' => e = .returned (.int .i64 xf) ∧ W' = W)
    (cr : ∀ W : World, Calls Tryz.prog 106 #[.string ⟨#[60, 36, 37, 42, 95]⟩, .int .u8 (n : Int)] W fun e W' => e = .returned (.int .i64 xr) ∧ W' = W) :
    Calls Tryz.prog 122 #[.int .u8 (c : Int), .int .u8 (n : Int)] w fun e W => e = .returned (.bool (memB c (cSmall n) (cDigit n) (decide (0 ≤ xw)) (decide (0 ≤ xf)) (decide (0 ≤ xr)) (n == 45) (n == c))) ∧ W = w := by
  have CW := Lib.hid cw
  have CF := Lib.hid cf
  have CR := Lib.hid cr
  clear cw cf cr
  have hcs : c = 76 ∨ c = 68 ∨ c = 87 ∨ c = 70 ∨ c = 66 ∨ c = 81 ∨ c = 65 ∨ (c ≠ 76 ∧ c ≠ 68 ∧ c ≠ 87 ∧ c ≠ 70 ∧ c ≠ 66 ∧ c ≠ 81 ∧ c ≠ 65) := by omega
  have hrange : (n < 48 ∧ cSmall n = false ∧ cDigit n = false) ∨ (48 ≤ n ∧ n ≤ 57 ∧ cSmall n = false ∧ cDigit n = true) ∨ (57 < n ∧ n < 97 ∧ cSmall n = false ∧ cDigit n = false) ∨ (97 ≤ n ∧ n ≤ 122 ∧ cSmall n = true ∧ cDigit n = false) ∨ (122 < n ∧ cSmall n = false ∧ cDigit n = false) := by
    unfold cSmall cDigit
    simp only [Bool.and_eq_true, Bool.and_eq_false_iff, decide_eq_true_eq, decide_eq_false_iff_not]
    omega
  obtain ⟨sm, hsm⟩ : ∃ x, cSmall n = x := ⟨_, rfl⟩
  obtain ⟨dg, hdg⟩ : ∃ x, cDigit n = x := ⟨_, rfl⟩
  rw [hsm, hdg] at hrange ⊢
  clear hsm hdg
  rcases hrange with ⟨r1, rfl, rfl⟩ | ⟨r1, r2, rfl, rfl⟩ | ⟨r1, r2, rfl, rfl⟩ | ⟨r1, r2, rfl, rfl⟩ | ⟨r1, rfl, rfl⟩
  all_goals
    rcases hcs with rfl | rfl | rfl | rfl | rfl | rfl | rfl | ⟨n1, n2, n3, n4, n5, n6, n7⟩
    case inr.inr.inr.inr.inr.inr.inr =>
      have m1 : ((c : Int) == 76) = false := by simp; omega
      have m2 : ((c : Int) == 68) = false := by simp; omega
      have m3 : ((c : Int) == 87) = false := by simp; omega
      have m4 : ((c : Int) == 70) = false := by simp; omega
      have m5 : ((c : Int) == 66) = false := by simp; omega
      have m6 : ((c : Int) == 81) = false := by simp; omega
      have m7 : ((c : Int) == 65) = false := by simp; omega
      have hv := Lib.hid (show c ≠ 76 ∧ c ≠ 68 ∧ c ≠ 87 ∧ c ≠ 70 ∧ c ≠ 66 ∧ c ≠ 81 ∧ c ≠ 65 from ⟨n1, n2, n3, n4, n5, n6, n7⟩)
      have he : ((n : Int) == (c : Int)) = (n == c) := by rw [Bool.eq_iff_iff, beq_iff_eq, beq_iff_eq]; omega
      clear n1 n2 n3 n4 n5 n6 n7
      go_enter Tryz.func122, Tryz.ntmps122
      go_wp2_with fail
      go_ret
      exact ⟨by rw [memB_other hv.out]; rfl, rfl⟩
    all_goals
      have he45 : ((n : Int) == 45) = (n == 45) := by rw [Bool.eq_iff_iff, beq_iff_eq, beq_iff_eq]; omega
      go_enter Tryz.func122, Tryz.ntmps122
      go_wp2_with (go_at_call 106; first | ((with_reducible refine (CW.out _).mono ?_); rintro e W ⟨rfl, rfl⟩) | ((with_reducible refine (CF.out _).mono ?_); rintro e W ⟨rfl, rfl⟩) | ((with_reducible refine (CR.out _).mono ?_); rintro e W ⟨rfl, rfl⟩))
      all_goals
        go_ret
        refine ⟨?_, rfl⟩
        first
          | rfl
          | (simp [memB]; done)
          | (simp [memB]; omega)

/-- **member** -/
theorem member_any (c b : UInt8) (w : World) :
    Calls Tryz.prog 122 #[.int .u8 (c.toNat : Int), .int .u8 (b.toNat : Int)] w fun e W => e = .returned (.bool (rMem c.toNat b.toNat)) ∧ W = w := by
  have h := member_z c.toNat c.toNat_lt b.toNat _ _ _ w (fun W => find_any bWord b (by decide) W) (fun W => find_any bFin b (by decide) W) (fun W => find_any bFront b (by decide) W)
  rw [← rMem_memB c.toNat b.toNat b rfl] at h
  exact h
end Go.Proofs.YtopbmndjnjnmcaaGreatDoor

namespace Go.Proofs.YtopbmndjnjnmcaaGreatDoor
open Go.RowKit Lx

attribute [local go_sem] Oper.semAt_some

/-- A row of booleans. -/
def bools (f : Nat → Bool) (n : Nat) : Array Value := ((List.range n).map fun i => Value.bool (f i)).toArray
theorem bools_get (f : Nat → Bool) {n i : Nat} (h : i < n) : (bools f n)[i]? = some (.bool (f i)) := by
  unfold bools; simp [h]
theorem bools_congr {f g : Nat → Bool} {n : Nat} (h : ∀ i, i < n → f i = g i) : bools f n = bools g n := by
  unfold bools
  congr 1
  apply List.map_congr_left
  intro i hi
  rw [h i (by simpa using hi)]
theorem bools_size (f : Nat → Bool) (n : Nat) : (bools f n).size = n := by unfold bools; simp
theorem bools_set (f : Nat → Bool) {n i : Nat} (b : Bool) (h : i < n) : (bools f n).setIfInBounds i (.bool b) = bools (fun j => if j = i then b else f j) n := by
  apply Array.ext_getElem?
  intro j
  by_cases hj : j < n
  · rw [bools_get _ hj]
    by_cases hji : j = i
    · subst hji
      rw [Array.getElem?_setIfInBounds_self_of_lt (by rw [bools_size]; exact hj)]; simp
    · rw [Array.getElem?_setIfInBounds_ne (fun e => hji e.symm), bools_get _ hj, if_neg hji]
  · rw [Array.getElem?_eq_none (by rw [Array.size_setIfInBounds, bools_size]; omega), Array.getElem?_eq_none (by rw [bools_size]; omega)]

def BRow (W : World) (g : Nat) (f : Nat → Bool) (n : Nat) : Prop := W.heap[g]? = some (.cells (bools f n) 4 (0, 0))
section
variable {W W' : World} {g n : Nat} {f : Nat → Bool}
theorem BRow.lt (h : BRow W g f n) : g < W.heap.size := (Array.getElem?_eq_some_iff.1 h).1
theorem BRow.cell (h : BRow W g f n) {i : Nat} (hi : i < n) : W.cell? ⟨g, i, none⟩ = some (.bool (f i)) := by
  have h' : W.heap[g]? = _ := h
  simp only [World.cell?, h']
  rw [bools_get f hi]; rfl
theorem BRow.frozen (h : BRow W g f n) (i : Nat) : W.frozen? ⟨g, i, none⟩ = false := by
  have h' : W.heap[g]? = _ := h
  simp [World.frozen?, h']
theorem BRow.bl (h : BRow W g f n) (hb : Below W.heap.size W W') : BRow W' g f n := (hb.block g h.lt).trans h
theorem BRow.other (h : BRow W g f n) {g' i : Nat} (hne : g ≠ g') (v : Value) : BRow (W.setCell ⟨g', i, none⟩ v) g f n := (Below.heap_setCell W _ v g hne).trans h
theorem BRow.set (h : BRow W g f n) {i : Nat} (hi : i < n) (b : Bool) : BRow (W.setCell ⟨g, i, none⟩ (.bool b)) g (fun j => if j = i then b else f j) n := by
  have := heap_set W g i _ 4 (0, 0) (.bool b) h
  rw [bools_set f b hi] at this
  exact this
end

theorem info4 : (Tryz.prog.info? 4).map (fun i => (i.zero, i.size, i.bytes)) = some (some (.bool false), 1, 1) := by kernel_rfl

theorem made_bools (n : Nat) : madeCells (Value.bool false).cells n = bools (fun _ => false) n := by
  apply Array.ext_getElem?
  intro j
  by_cases hj : j < n
  · rw [bools_get _ hj]; simp [madeCells, Value.cells, hj, Nat.mod_one]
  · rw [Array.getElem?_eq_none (by rw [size_madeCells]; omega), Array.getElem?_eq_none (by rw [bools_size]; omega)]

/-- make of booleans -/
theorem make_bools (n : Nat) (hn : n ≤ 100000) (w : World) : (Instr.makeSlice 208 (.int .i64 (n : Int)) (.int .i64 (n : Int))).run Tryz.prog w = .ok (.slice (some ⟨w.heap.size, 0, none⟩) n n) (w.alloc (.cells (bools (fun _ => false) n) 4)) := by
  obtain ⟨i, hi, hz, h1, h2⟩ := info_parts info4
  have hr := run_make (P := Tryz.prog) w 208 4 i (.bool false) Tryz.underlying208 hi hz .i64 .i64 n n (by omega) (by omega) (by rw [h2]; omega) (by omega)
  simp only [Int.toNat_natCast] at hr
  rw [hr, h1, Nat.mul_one, made_bools]

/-- The parts of a pattern from an index on. -/
theorem items_star (p : ByteArray) (k : Nat) (h : k + 1 < p.size) (h2 : p[k + 1] = 42) : rItems (p.data.toList.drop k) = (p[k].toNat, true) :: rItems (p.data.toList.drop (k + 2)) := by
  rw [drop2 p k (by omega), h2]; rfl
theorem items_one (p : ByteArray) (k : Nat) (h : k < p.size) (h2 : ∀ h' : k + 1 < p.size, p[k + 1] ≠ 42) : rItems (p.data.toList.drop k) = (p[k].toNat, false) :: rItems (p.data.toList.drop (k + 1)) := by
  by_cases h' : k + 1 < p.size
  · rw [drop2 p k (by omega)]
    have : rItems (p[k] :: p[k + 1] :: p.data.toList.drop (k + 2)) = if p[k + 1] = 42 then (p[k].toNat, true) :: rItems (p.data.toList.drop (k + 2)) else (p[k].toNat, false) :: rItems (p[k + 1] :: p.data.toList.drop (k + 2)) := rfl
    rw [this, if_neg (h2 h')]
    congr 2
    rw [List.drop_eq_getElem_cons (i := k + 1) (by simp; omega)]; rfl
  · rw [List.drop_eq_getElem_cons (by simpa using h), List.drop_eq_nil_of_le (i := k + 1) (by simp; omega)]; rfl

/-- What has been found of the next set so far. -/
def part (F : Nat → Bool) (i : Nat) : Nat → Bool := fun j => decide (j < i) && F j
theorem part_zero (F : Nat → Bool) (n : Nat) : bools (part F 0) n = bools (fun _ => false) n := bools_congr fun i _ => by simp [part]
theorem part_all (F : Nat → Bool) (n : Nat) : bools (part F n) n = bools F n := bools_congr fun i hi => by simp [part, hi]
theorem part_yes {F : Nat → Bool} {i n : Nat} (h : F i = true) : bools (fun j => if j = i then true else part F i j) n = bools (part F (i + 1)) n := bools_congr fun j _ => by
  unfold part
  by_cases hj : j = i
  · subst hj; simp [h]
  · rw [if_neg hj]
    have : decide (j < i) = decide (j < i + 1) := by rw [Bool.eq_iff_iff, decide_eq_true_eq, decide_eq_true_eq]; omega
    rw [this]
theorem part_no {F : Nat → Bool} {i n : Nat} (h : F i = false) : bools (part F i) n = bools (part F (i + 1)) n := bools_congr fun j _ => by
  unfold part
  by_cases hj : j = i
  · subst hj; simp [h]
  · have : decide (j < i) = decide (j < i + 1) := by rw [Bool.eq_iff_iff, decide_eq_true_eq, decide_eq_true_eq]; omega
    rw [this]
theorem rIn_at (s : ByteArray) (c i : Nat) (h : i < s.size) : rIn s.data.toList c i = rMem c s[i].toNat := by
  unfold rIn; rw [byte_get s i h]

theorem rLong_not {s : Bs} {c : Nat} {q : List Item} (h : rIn s c 0 = false) : rLong ((c, false) :: q) s = 0 := by
  rcases Nat.eq_zero_or_pos (rLong ((c, false) :: q) s) with h0 | h0
  · exact h0
  · have := (rLong_mem h0).1
    rw [h] at this; cases this

theorem made_at (w : World) (n : Nat) {b : Nat} (hb : w.heap.size = b) : BRow (w.alloc (.cells (bools (fun _ => false) n) 4)) b (fun _ => false) n := by
  subst hb; exact Array.getElem?_push_size
theorem cell0 (w : World) (n : Nat) {b : Nat} (hb : w.heap.size = b) : (w.alloc (Obj.cells (bools (fun _ => false) (n + 1)) 4)).cell? ⟨b, 0, none⟩ = some (.bool false) := (made_at w (n + 1) hb).cell (by omega)
theorem frozen0 (w : World) (n : Nat) {b : Nat} (hb : w.heap.size = b) : (w.alloc (Obj.cells (bools (fun _ => false) (n + 1)) 4)).frozen? ⟨b, 0, none⟩ = false := (made_at w (n + 1) hb).frozen 0

theorem brow_drew {W : World} {g n : Nat} {f : Nat → Bool} (h : BRow W g f n) (m : Nat) : BRow (W.drewN m) g f n := h.bl (bl _ _)
theorem brow_eq {W : World} {g n : Nat} {f f' : Nat → Bool} (h : BRow W g f n) (he : bools f n = bools f' n) : BRow W g f' n := by
  unfold BRow at h ⊢; rw [← he]; exact h
/-- A callee that leaves its world, met behind two rows of draws. -/
theorem quiet_second {f : FuncId} {args : Array Value} {W : World} {a b : Nat} {r : Value} (c : ∀ w : World, Calls Tryz.prog f args w fun e w' => e = .returned r ∧ w' = w) :
    Calls Tryz.prog f args (W.drewN (a + b)) fun e w' => e = .returned r ∧ ∃ m, w' = W.drewN (a + m) :=
  (c _).mono fun _ _ h => ⟨h.1, b, h.2⟩
set_option maxRecDepth 100000 in
set_option maxHeartbeats 8000000 in
/-- **longest** -/
theorem refLongest_any (p s : ByteArray) (hp0 : 1 ≤ p.size) (hp : p.size ≤ 1000) (hs : s.size ≤ 100) (hf : ∀ h' : 1 < p.size, p[1] ≠ 42) (w : World) :
    Calls Tryz.prog 151 #[.string p, .string s] w fun e W => e = .returned (.int .i64 (rLong (rItems p.data.toList) s.data.toList : Nat)) ∧ Below w.heap.size w W := by
  have hit := items_one p 0 (by omega) hf
  rw [List.drop_zero] at hit
  have HIT := Lib.hid hit
  clear hit hf
  have hm : ∀ W : World, (Instr.makeSlice 208 (.int .i64 ((s.size : Int) + 1)) (.int .i64 ((s.size : Int) + 1))).run Tryz.prog W = .ok (.slice (some ⟨W.heap.size, 0, none⟩) (s.size + 1) (s.size + 1)) (W.alloc (.cells (bools (fun _ => false) (s.size + 1)) 4)) := fun W => by
    have h := make_bools (s.size + 1) (by omega) W
    rw [show (((s.size + 1 : Nat)) : Int) = (s.size : Int) + 1 from by omega] at h
    exact h
  by_cases hz : s.size = 0
  · have hl : Hid (rLong (rItems p.data.toList) s.data.toList = 0) := Lib.hid (by
      have := rLong_le (rItems p.data.toList) s.data.toList
      simp at this; omega)
    have hd : ((s.size : Int) == 0) = true := beq_iff_eq.2 (by omega)
    clear hz
    go_enter Tryz.func151, Tryz.ntmps151
    go_wp2_with fail
    go_quiet ((go_at_call 122; exact Calls.quiet_of_same (member_any _ _ _)))
    go_wp2_with fail
    go_ret
    exact ⟨by rw [hl.out]; rfl, bl _ _⟩
  · have hd : ((s.size : Int) == 0) = false := beq_eq_false_iff_ne.2 (by omega)
    have hs0 : 0 < s.size := by omega
    have hsr := rIn_at s p[0].toNat 0 hs0
    have HSR := Lib.hid hsr
    have i0 : (0 : Int) < (p.size : Int) := by omega
    have i1 : (0 : Int) < (s.size : Int) := by omega
    have j0 : 0 < p.size := hp0
    clear hsr hz
    cases hmem : rMem p[0].toNat s[0].toNat
    · have hl : Hid (rLong (rItems p.data.toList) s.data.toList = 0) := Lib.hid (by rw [HIT.out]; exact rLong_not (by rw [HSR.out, hmem]))
      go_enter Tryz.func151, Tryz.ntmps151
      go_wp2_with fail
      refine wp_region_quiet_lit (by kernel_rfl) (by kernel_rfl) ?_
      repeat (quiet_step ((go_at_call 122; exact Calls.quiet_of_same (member_any _ _ _))))
      refine wpQuiet_nil ?_
      intro _ hw'
      obtain ⟨nq, hw''⟩ := hw'
      subst hw''
      go_wp2_with fail
      go_ret
      exact ⟨by rw [hl.out]; rfl, bl _ _⟩
    · have hc0 : ∀ nq : Nat, ((w.drewN nq).alloc (Obj.cells (bools (fun _ => false) (s.size + 1)) 4)).cell? ⟨w.heap.size, 0, none⟩ = some (.bool false) := fun nq => cell0 _ _ rfl
      have hf0 : ∀ nq : Nat, ((w.drewN nq).alloc (Obj.cells (bools (fun _ => false) (s.size + 1)) 4)).frozen? ⟨w.heap.size, 0, none⟩ = false := fun nq => frozen0 _ _ rfl
      go_enter Tryz.func151, Tryz.ntmps151
      go_wp2_with fail
      refine wp_region_quiet_lit (by kernel_rfl) (by kernel_rfl) ?_
      repeat (quiet_step ((go_at_call 122; exact Calls.quiet_of_same (member_any _ _ _))))
      refine wpQuiet_nil ?_
      intro _ hw'
      obtain ⟨nq, hw''⟩ := hw'
      subst hw''
      go_wp2_with fail
      clear hc0 hf0 hmem HSR
      go_loopw [5, 6] (fun a k wr => ∃ (kk g : Nat) (f : Nat → Bool), kk ≤ p.size ∧ k = .int .i64 kk ∧ a = .slice (some ⟨g, 0, none⟩) (s.size + 1) (s.size + 1) ∧ Hid (BRow wr g f (s.size + 1)) ∧ Hid (rSet s.data.toList (rItems (p.data.toList.drop kk)) f = rSet s.data.toList (rItems p.data.toList) (fun i => i == 0)) ∧ w.heap.size ≤ g ∧ Below w.heap.size w wr) (fun _ k _ => p.size - (intOf k).toNat)
      case atStart =>
        refine ⟨0, w.heap.size, fun j => if j = 0 then true else false, by omega, rfl, rfl, Lib.hid ?_, Lib.hid ?_, Nat.le_refl _, ?_⟩
        · exact BRow.set (made_at _ _ rfl) (by omega) true
        · rw [List.drop_zero]
          congr 1
        · exact ((bl _ _).alloc (Nat.le_refl _) _).setCell (p := ⟨w.heap.size, 0, none⟩) (Nat.le_refl _) _
      case round =>
        obtain ⟨k, g, f, hk, rfl, rfl, HB, HR, hg, hb⟩ := hrel
        by_cases hlt : k < p.size
        · have d1 : decide ((k : Int) < (p.size : Int)) = true := by simpa using hlt
          go_upto_region 8 with fail
          go_cut [7] from 34 to 45 (fun st wx => ∃ star : Bool, st = .bool star ∧ Hid (rItems (p.data.toList.drop k) = (p[k].toNat, star) :: rItems (p.data.toList.drop (k + 1 + star.toNat))) ∧ (star = true → k + 2 ≤ p.size) ∧ wx = wr)
          case first =>
            by_cases h1 : k + 1 < p.size
            · have d2 : decide ((k : Int) + 1 < (p.size : Int)) = true := by simp; omega
              have j1 : (0 : Int) ≤ (k : Int) + 1 := by omega
              have j2 : (k : Int) + 1 < (p.size : Int) := by omega
              cases hc : ((p[k + 1].toNat : Int) == 42)
              · have hne : Hid (∀ h' : k + 1 < p.size, p[k + 1] ≠ 42) := Lib.hid (fun h' e => by rw [e] at hc; simp at hc)
                have hI := Lib.hid (items_one p k hlt hne.out)
                clear hne
                go_wp2_with fail
                go_meet
                exact ⟨false, rfl, hI, by simp, rfl⟩
              · have heq : p[k + 1] = 42 := by
                  have hc2 : (p[k + 1].toNat : Int) = 42 := by simpa using hc
                  exact UInt8.toNat_inj.1 (by show p[k + 1].toNat = 42; omega)
                have hI := Lib.hid (items_star p k h1 heq)
                clear heq
                go_wp2_with fail
                go_meet
                exact ⟨true, rfl, hI, fun _ => by omega, rfl⟩
            · have d2 : decide ((k : Int) + 1 < (p.size : Int)) = false := by simp; omega
              have hI := Lib.hid (items_one p k hlt (fun h' => absurd h' h1))
              clear h1
              go_wp2_with fail
              go_meet
              exact ⟨false, rfl, hI, by simp, rfl⟩
          case rest =>
            obtain ⟨star, rfl, HI, hst, hw⟩ := hcut
            subst hw
            obtain ⟨F, hF⟩ : ∃ F, rNext s.data.toList p[k].toNat star f = F := ⟨_, rfl⟩
            have HF := Lib.hid hF
            clear hF
            have hgs := HB.out.lt
            go_wp2_with fail
            go_loopw [9] (fun i wy => ∃ j : Nat, j ≤ s.size + 1 ∧ i = .int .i64 j ∧ Hid (BRow wy g f (s.size + 1)) ∧ Hid (BRow wy wc.heap.size (part F j) (s.size + 1)) ∧ Below wc.heap.size wc wy) (fun i _ => s.size + 1 - (intOf i).toNat)
            case atStart =>
              refine ⟨0, by omega, rfl, Lib.hid ?_, Lib.hid ?_, ?_⟩
              · exact HB.out.bl ((Below.refl _ wc).alloc (Nat.le_refl _) _)
              · show _ = _
                rw [part_zero]; exact made_at _ _ rfl
              · exact (Below.refl _ wc).alloc (Nat.le_refl _) _
            case round =>
              obtain ⟨j, hj, rfl, HG, HP, hb2⟩ := hrel
              by_cases hjl : j ≤ s.size
              · have d3 : decide ((j : Int) ≤ (s.size : Int)) = true := by simp; omega
                cases star
                · have hz : Hid (F 0 = false) := Lib.hid (by rw [← HF.out]; rfl)
                  have hs1 : ∀ q, Hid (F (q + 1) = (f q && rIn s.data.toList p[k].toNat q)) := fun q => Lib.hid (by rw [← HF.out]; rfl)
                  rcases j with _ | j
                  · have HN := Lib.hid (part_no (F := F) (i := 0) (n := s.size + 1) hz.out)
                    clear hz hs1
                    go_wp2_with fail
                    go_big_quiet ((go_at_call 122; exact Calls.quiet_of_same (member_any _ _ _)))
                    go_wp2_with fail
                    go_big_quiet ((go_at_call 122; exact quiet_second (member_any _ _)))
                    go_wp2_with fail
                    go_roundw
                    case rel => exact ⟨1, by omega, rfl, Lib.hid (brow_drew HG.out _), Lib.hid (brow_eq (brow_drew HP.out _) HN.out), below_drewN hb2 _⟩
                    case measure => simp [intOf] <;> omega
                  · have hjl2 : j < s.size := by omega
                    have HS : Hid (F (j + 1) = (f j && rMem p[k].toNat s[j].toNat)) := Lib.hid (by rw [(hs1 j).out, rIn_at s _ j hjl2])
                    clear hs1 hz
                    have q0 : (0 : Int) ≤ (j : Int) := by omega
                    have q1 : (j : Int) < (s.size : Int) + 1 := by omega
                    have q2 : (j : Int) < (s.size : Int) := by omega
                    have q3 : (0 : Int) < (j : Int) + 1 := by omega
                    have q4 : (0 : Int) ≤ (k : Int) := by omega
                    have q5 : (k : Int) < (p.size : Int) := by omega
                    have q6 : (0 : Int) ≤ (j : Int) + 1 := by omega
                    have q7 : (j : Int) + 1 < (s.size : Int) + 1 := by omega
                    have c1 := HG.out.cell (i := j) (by omega)
                    have c3 := HP.out.cell (i := j + 1) (by omega)
                    have c4 := HP.out.frozen (j + 1)
                    cases hfj : f j
                    · rw [hfj] at c1
                      have HN := Lib.hid (part_no (F := F) (i := j + 1) (n := s.size + 1) (by rw [HS.out, hfj]; rfl))
                      go_wp2_with fail
                      go_big_quiet ((go_at_call 122; exact Calls.quiet_of_same (member_any _ _ _)))
                      go_wp2_with fail
                      go_big_quiet ((go_at_call 122; exact quiet_second (member_any _ _)))
                      go_wp2_with fail
                      go_roundw
                      case rel => exact ⟨j + 1 + 1, by omega, rfl, Lib.hid (brow_drew HG.out _), Lib.hid (brow_eq (brow_drew HP.out _) HN.out), below_drewN hb2 _⟩
                      case measure => simp [intOf] <;> omega
                    · rw [hfj] at c1
                      cases hm2 : rMem p[k].toNat s[j].toNat
                      · have HN := Lib.hid (part_no (F := F) (i := j + 1) (n := s.size + 1) (by rw [HS.out, hfj, hm2]; rfl))
                        go_wp2_with fail
                        go_big_quiet ((go_at_call 122; exact Calls.quiet_of_same (member_any _ _ _)))
                        go_wp2_with fail
                        go_big_quiet ((go_at_call 122; exact quiet_second (member_any _ _)))
                        go_wp2_with fail
                        go_roundw
                        case rel => exact ⟨j + 1 + 1, by omega, rfl, Lib.hid (brow_drew HG.out _), Lib.hid (brow_eq (brow_drew HP.out _) HN.out), below_drewN hb2 _⟩
                        case measure => simp [intOf] <;> omega
                      · have HN := Lib.hid (part_yes (F := F) (i := j + 1) (n := s.size + 1) (by rw [HS.out, hfj, hm2]; rfl))
                        go_wp2_with fail
                        go_big_quiet ((go_at_call 122; exact Calls.quiet_of_same (member_any _ _ _)))
                        go_wp2_with fail
                        go_big_quiet ((go_at_call 122; exact quiet_second (member_any _ _)))
                        go_wp2_with fail
                        go_roundw
                        case rel => exact ⟨j + 1 + 1, by omega, rfl, Lib.hid ((brow_drew HG.out _).other (by omega) _), Lib.hid (brow_eq ((brow_drew HP.out _).set (by omega) true) HN.out), (below_drewN hb2 _).setCell (p := ⟨wc.heap.size, _, none⟩) (Nat.le_refl _) _⟩
                        case measure => simp [intOf] <;> omega
                · have hz : Hid (F 0 = f 0) := Lib.hid (by rw [← HF.out]; rfl)
                  have hs1 : ∀ q, Hid (F (q + 1) = (f (q + 1) || (F q && rIn s.data.toList p[k].toNat q))) := fun q => Lib.hid (by rw [← HF.out]; rfl)
                  rcases j with _ | j
                  · have q1 : (0 : Int) < (s.size : Int) + 1 := by omega
                    have c1 := HG.out.cell (i := 0) (by omega)
                    have c3 := HP.out.cell (i := 0) (by omega)
                    have c4 := HP.out.frozen 0
                    clear hs1
                    cases hfj : f 0
                    · rw [hfj] at c1
                      have HN := Lib.hid (part_no (F := F) (i := 0) (n := s.size + 1) (by rw [hz.out, hfj]))
                      go_wp2_with fail
                      go_big_quiet ((go_at_call 122; exact Calls.quiet_of_same (member_any _ _ _)))
                      go_wp2_with fail
                      go_big_quiet ((go_at_call 122; exact quiet_second (member_any _ _)))
                      go_wp2_with fail
                      go_roundw
                      case rel => exact ⟨1, by omega, rfl, Lib.hid (brow_drew HG.out _), Lib.hid (brow_eq (brow_drew HP.out _) HN.out), below_drewN hb2 _⟩
                      case measure => simp [intOf] <;> omega
                    · rw [hfj] at c1
                      have HN := Lib.hid (part_yes (F := F) (i := 0) (n := s.size + 1) (by rw [hz.out, hfj]))
                      go_wp2_with fail
                      go_big_quiet ((go_at_call 122; exact Calls.quiet_of_same (member_any _ _ _)))
                      go_wp2_with fail
                      go_big_quiet ((go_at_call 122; exact quiet_second (member_any _ _)))
                      go_wp2_with fail
                      go_roundw
                      case rel => exact ⟨1, by omega, rfl, Lib.hid (brow_drew ((brow_drew HG.out _).other (by omega) _) _), Lib.hid (brow_eq (brow_drew ((brow_drew HP.out _).set (by omega) true) _) HN.out), below_drewN ((below_drewN hb2 _).setCell (p := ⟨wc.heap.size, _, none⟩) (Nat.le_refl _) _) _⟩
                      case measure => simp [intOf] <;> omega
                  · have hjl2 : j < s.size := by omega
                    have HS : Hid (F (j + 1) = (f (j + 1) || (F j && rMem p[k].toNat s[j].toNat))) := Lib.hid (by rw [(hs1 j).out, rIn_at s _ j hjl2])
                    clear hs1 hz
                    have q0 : (0 : Int) ≤ (j : Int) := by omega
                    have q1 : (j : Int) < (s.size : Int) + 1 := by omega
                    have q2 : (j : Int) < (s.size : Int) := by omega
                    have q3 : (0 : Int) < (j : Int) + 1 := by omega
                    have q4 : (0 : Int) ≤ (k : Int) := by omega
                    have q5 : (k : Int) < (p.size : Int) := by omega
                    have q6 : (0 : Int) ≤ (j : Int) + 1 := by omega
                    have q7 : (j : Int) + 1 < (s.size : Int) + 1 := by omega
                    have c1 := HG.out.cell (i := j + 1) (by omega)
                    have c2 := HP.out.cell (i := j) (by omega)
                    have c3 := HP.out.cell (i := j + 1) (by omega)
                    have c4 := HP.out.frozen (j + 1)
                    rw [show part F (j + 1) j = F j from by simp [part]] at c2
                    cases hfj : f (j + 1)
                    · rw [hfj] at c1
                      cases hFj : F j
                      · rw [hFj] at c2
                        have HN := Lib.hid (part_no (F := F) (i := j + 1) (n := s.size + 1) (by rw [HS.out, hfj, hFj]; rfl))
                        go_wp2_with fail
                        go_big_quiet ((go_at_call 122; exact Calls.quiet_of_same (member_any _ _ _)))
                        go_wp2_with fail
                        go_big_quiet ((go_at_call 122; exact quiet_second (member_any _ _)))
                        go_wp2_with fail
                        go_roundw
                        case rel => exact ⟨j + 1 + 1, by omega, rfl, Lib.hid (brow_drew HG.out _), Lib.hid (brow_eq (brow_drew HP.out _) HN.out), below_drewN hb2 _⟩
                        case measure => simp [intOf] <;> omega
                      · rw [hFj] at c2
                        cases hm2 : rMem p[k].toNat s[j].toNat
                        · have HN := Lib.hid (part_no (F := F) (i := j + 1) (n := s.size + 1) (by rw [HS.out, hfj, hFj, hm2]; rfl))
                          go_wp2_with fail
                          go_big_quiet ((go_at_call 122; exact Calls.quiet_of_same (member_any _ _ _)))
                          go_wp2_with fail
                          go_big_quiet ((go_at_call 122; exact quiet_second (member_any _ _)))
                          go_wp2_with fail
                          go_roundw
                          case rel => exact ⟨j + 1 + 1, by omega, rfl, Lib.hid (brow_drew HG.out _), Lib.hid (brow_eq (brow_drew HP.out _) HN.out), below_drewN hb2 _⟩
                          case measure => simp [intOf] <;> omega
                        · have HN := Lib.hid (part_yes (F := F) (i := j + 1) (n := s.size + 1) (by rw [HS.out, hfj, hFj, hm2]; rfl))
                          go_wp2_with fail
                          go_big_quiet ((go_at_call 122; exact Calls.quiet_of_same (member_any _ _ _)))
                          go_wp2_with fail
                          go_big_quiet ((go_at_call 122; exact quiet_second (member_any _ _)))
                          go_wp2_with fail
                          go_roundw
                          case rel => exact ⟨j + 1 + 1, by omega, rfl, Lib.hid (brow_drew ((brow_drew HG.out _).other (by omega) _) _), Lib.hid (brow_eq (brow_drew ((brow_drew HP.out _).set (by omega) true) _) HN.out), below_drewN ((below_drewN hb2 _).setCell (p := ⟨wc.heap.size, _, none⟩) (Nat.le_refl _) _) _⟩
                          case measure => simp [intOf] <;> omega
                    · rw [hfj] at c1
                      have HN := Lib.hid (part_yes (F := F) (i := j + 1) (n := s.size + 1) (by rw [HS.out, hfj]; rfl))
                      go_wp2_with fail
                      go_big_quiet ((go_at_call 122; exact Calls.quiet_of_same (member_any _ _ _)))
                      go_wp2_with fail
                      go_big_quiet ((go_at_call 122; exact quiet_second (member_any _ _)))
                      go_wp2_with fail
                      go_roundw
                      case rel => exact ⟨j + 1 + 1, by omega, rfl, Lib.hid (brow_drew ((brow_drew HG.out _).other (by omega) _) _), Lib.hid (brow_eq (brow_drew ((brow_drew HP.out _).set (by omega) true) _) HN.out), below_drewN ((below_drewN hb2 _).setCell (p := ⟨wc.heap.size, _, none⟩) (Nat.le_refl _) _) _⟩
                      case measure => simp [intOf] <;> omega
              · have d3 : decide ((j : Int) ≤ (s.size : Int)) = false := by simp; omega
                have hje : j = s.size + 1 := by omega
                subst hje
                have HP2 := Lib.hid (brow_eq HP.out (part_all F (s.size + 1)))
                have HRn : Hid (rSet s.data.toList (rItems (p.data.toList.drop (k + 1 + star.toNat))) F = rSet s.data.toList (rItems p.data.toList) (fun i => i == 0)) := Lib.hid (by
                  rw [← HR.out, HI.out, ← HF.out]; rfl)
                have hb3 := hb.trans (hb2.mono hb.size)
                have hgw : w.heap.size ≤ wc.heap.size := hb.size
                clear HP HR HI HF HG
                cases star
                · go_wp2_with fail
                  go_roundw
                  case rel => exact ⟨k + 1, _, F, by omega, rfl, rfl, HP2, HRn, hgw, hb3⟩
                  case measure => simp [intOf] <;> omega
                · have hk2 := hst rfl
                  go_wp2_with fail
                  go_roundw
                  case rel => exact ⟨k + 1 + 1, _, F, by omega, rfl, rfl, HP2, HRn, hgw, hb3⟩
                  case measure => simp [intOf] <;> omega
        · have d1 : decide ((k : Int) < (p.size : Int)) = false := by simpa using hlt
          have hke : k = p.size := by omega
          have HL : Hid (rLong (rItems p.data.toList) s.data.toList = rLast f s.size) := Lib.hid (by
            have h := HR.out
            rw [hke, List.drop_eq_nil_of_le (by simp)] at h
            unfold rLong
            rw [← h]
            simp [rItems, rSet])
          clear HR hke
          go_wp2_with fail
          go_loopw [10] (fun x wy => ∃ j : Nat, j ≤ s.size ∧ x = .int .i64 j ∧ Hid (BRow wy g f (s.size + 1)) ∧ Hid (rLast f s.size = rLast f j) ∧ Below w.heap.size w wy) (fun x _ => (intOf x).toNat)
          case atStart => exact ⟨s.size, by omega, rfl, HB, Lib.hid rfl, hb⟩
          case round =>
            obtain ⟨j, hj, rfl, HG, HJ, hb2⟩ := hrel
            rcases j with _ | j
            · go_wp2_with fail
              go_ret
              exact ⟨by rw [HL.out, HJ.out]; rfl, hb2⟩
            · have c1 := HG.out.cell (i := j + 1) (by omega)
              have q3 : (0 : Int) < (j : Int) + 1 := by omega
              have q6 : (0 : Int) ≤ (j : Int) + 1 := by omega
              have q7 : (j : Int) + 1 < (s.size : Int) + 1 := by omega
              cases hfj : f (j + 1)
              · rw [hfj] at c1
                go_wp2_with fail
                go_roundw
                case rel => exact ⟨j, by omega, rfl, HG, Lib.hid (by rw [HJ.out]; simp [rLast, hfj]), hb2⟩
                case measure => simp [intOf] <;> omega
              · rw [hfj] at c1
                go_wp2_with fail
                go_ret
                exact ⟨by rw [HL.out, HJ.out]; simp [rLast, hfj], hb2⟩
end Go.Proofs.YtopbmndjnjnmcaaGreatDoor

namespace Go.Proofs.YtopbmndjnjnmcaaGreatDoor
open Go.RowKit Lx

attribute [local go_sem] Oper.semAt_some

/-- A row of texts. -/
def TRow (W : World) (g : Nat) (l : List Bs) : Prop := W.heap[g]? = some (.cells (l.map fun b => Value.string ⟨b.toArray⟩).toArray 9 (0, 0))
theorem TRow.bl {W W' : World} {g : Nat} {l : List Bs} (h : TRow W g l) (hb : Below W.heap.size W W') : TRow W' g l := (hb.block g (Array.getElem?_eq_some_iff.1 h).1).trans h
theorem TRow.cell {W : World} {g : Nat} {l : List Bs} (h : TRow W g l) {i : Nat} {b : Bs} (hi : l[i]? = some b) : W.cell? ⟨g, i, none⟩ = some (.string ⟨b.toArray⟩) := by
  rw [cell_of_row W g i _ 9 (0, 0) h]; simp [hi]

set_option maxRecDepth 100000 in
set_option maxHeartbeats 4000000 in
theorem refPlain_any (w : World) : Calls Tryz.prog 150 #[] w fun e W => ∃ g, e = .returned (.slice (some ⟨g, 0, none⟩) 4 4) ∧ w.heap.size ≤ g ∧ TRow W g rPlainB ∧ Below w.heap.size w W := by
  go_enter Tryz.func150, Tryz.ntmps150
  go_wp2_with fail
  go_ret
  exact ⟨_, rfl, Nat.le_refl _, heap_alloc_new w _, (Below.refl _ w).alloc (Nat.le_refl _) _⟩

set_option maxRecDepth 100000 in
set_option maxHeartbeats 4000000 in
theorem refSigns_any (w : World) : Calls Tryz.prog 154 #[] w fun e W => ∃ g, e = .returned (.slice (some ⟨g, 0, none⟩) 26 26) ∧ w.heap.size ≤ g ∧ TRow W g rSigns ∧ Below w.heap.size w W := by
  go_enter Tryz.func154, Tryz.ntmps154
  go_wp2_with fail
  go_ret
  exact ⟨_, rfl, Nat.le_refl _, heap_alloc_new w _, (Below.refl _ w).alloc (Nat.le_refl _) _⟩
end Go.Proofs.YtopbmndjnjnmcaaGreatDoor

namespace Go.Proofs.YtopbmndjnjnmcaaGreatDoor
open Go.RowKit Lx

attribute [local go_sem] Oper.semAt_some

theorem info122 : (Tryz.prog.info? 191).map (fun i => (i.zero, i.size, i.bytes)) = some (some (.agg #[.int .i64 0, .string ⟨#[]⟩]), 2, 24) := by kernel_rfl
def bstr (b : Bs) : ByteArray := ⟨b.toArray⟩
def ruCells (l : List (Nat × Bs)) : List Value := l.flatMap fun x => [.int .i64 (x.1 : Int), .string (bstr x.2)]
theorem ruCells_app (a b : List (Nat × Bs)) : ruCells (a ++ b) = ruCells a ++ ruCells b := by simp [ruCells]
theorem bstr_app (a b : Bs) : bstr a ++ bstr b = bstr (a ++ b) := by
  apply ByteArray.ext; simp [bstr]
theorem bstr_size (b : Bs) : (bstr b).size = b.length := rfl

theorem below_grown {B : Nat} {a W W' : World} {row : Option Nat} (h : Below B a W) (hB : B ≤ a.heap.size) (hg : W.grownBy W' row) (hr : ∀ k, row = some k → B ≤ k) : Below B a W' :=
  ⟨hg.os.trans h.os, hg.tape.trans h.tape, hg.output.trans h.output, Nat.le_trans h.size hg.size, fun k hk => (hg.block k (Nat.lt_of_lt_of_le (Nat.lt_of_lt_of_le hk hB) h.size) (fun e => by have := hr k e.symm; omega)).trans (h.block k hk)⟩

/-- What rules holds. -/
structure RuI (w : World) (gn : Nat) (v : Value) (n : Nat) (l : List (Nat × Bs)) (W : World) : Prop where
  own : W.ownsRow w.heap.size 191 2 v n (ruCells l)
  row : TRow W gn rPlainB
  ne : v.ownBlock ≠ some gn
  bel : Below w.heap.size w W

theorem RuI.lt {w W : World} {gn n : Nat} {v : Value} {l : List (Nat × Bs)} (h : RuI w gn v n l W) : gn < W.heap.size := (Array.getElem?_eq_some_iff.1 h.row).1
theorem RuI.more {w W W2 w10 : World} {gn gg n m : Nat} {v v' : Value} {l l' : List (Nat × Bs)} {ys : List Value} (h : RuI w gn v n l W) (hb : Below W.heap.size W W2) (hown : w10.ownsRow w.heap.size 191 2 v' (n + m) ys) (hys : ys = ruCells l ++ ruCells l')
    (hgrow : W2.grownBy w10 v.ownBlock) (hat : v.ownBlock = some gg ∨ W.heap.size ≤ gg) (hv : v'.ownBlock = some gg) : RuI w gn v' (n + m) (l ++ l') w10 := by
  have hlt := h.lt
  refine ⟨by rw [ruCells_app, ← hys]; exact hown, (hgrow.block gn (Nat.lt_of_lt_of_le hlt hb.size) (fun e => h.ne e.symm)).trans (h.row.bl hb), ?_, ?_⟩
  · rw [hv]
    intro e
    rcases hat with e2 | e2
    · exact h.ne (e2.trans e)
    · cases e; omega
  · exact below_grown (h.bel.trans (hb.mono h.bel.size)) (Nat.le_refl _) hgrow (fun k hk => (h.own.lt k hk).1)

set_option maxRecDepth 100000 in
set_option maxHeartbeats 8000000 in
theorem refRules_any (w : World) : Calls Tryz.prog 149 #[] w fun e W => ∃ v, e = .returned v ∧ W.ownsRow w.heap.size 191 2 v 36 (ruCells rRules) ∧ Below w.heap.size w W := by
  obtain ⟨i0, hi0, hz0, hz1, hz2⟩ := info_parts info122
  go_enter Tryz.func149, Tryz.ntmps149
  go_wp2_with fail
  refine (refPlain_any _).mono ?_
  rintro e w1 ⟨gn, rfl, hgn, hrow, hb1⟩
  have hR0 : RuI w gn (.slice (some ⟨w.heap.size, 0, none⟩) 0 0) 0 [] w1 := by
    have h1 := World.ownsRow_lit (base := w.heap.size) (e := 191) (size := 2) w #[] 0 (Nat.le_refl _) (by unfold maxLen; omega) rfl
    refine ⟨owns_bl' h1 hb1, hrow, ?_, ((Below.refl _ w).alloc (Nat.le_refl _) _).trans (hb1.mono (by rw [World.size_alloc]; omega))⟩
    show some w.heap.size ≠ some gn
    intro e
    cases e
    rw [World.size_alloc] at hgn
    omega
  have HR0 := Lib.hid hR0
  clear hR0 hrow hb1
  go_wp2_with fail
  go_loopw [1, 3, 4] (fun v i _ wr => ∃ k : Nat, k ≤ 4 ∧ i = .int .i64 k ∧ (∃ a n c, v = .slice a n c) ∧ Hid (RuI w gn v (k * 8) ((rPlainB.take k).flatMap rRulesOf) wr)) (fun _ i _ _ => 4 - (intOf i).toNat)
  case atStart => exact ⟨0, by omega, rfl, ⟨_, _, _, rfl⟩, HR0⟩
  case round =>
    obtain ⟨k, hk, rfl, ⟨va, vn, vc, rfl⟩, HR⟩ := hrel
    clear HR0
    by_cases hlt : k < 4
    · have d1 : decide ((k : Int) < 4) = true := by simp; omega
      obtain ⟨b, hbk⟩ : ∃ b, rPlainB[k]? = some b := ⟨_, List.getElem?_eq_getElem (by simpa [rPlainB] using hlt)⟩
      have hc := HR.out.row.cell hbk
      change wr.cell? ⟨gn, k, none⟩ = some (.string (bstr b)) at hc
      have hbs : (bstr b).size ≤ 7 := by
        have : k = 0 ∨ k = 1 ∨ k = 2 ∨ k = 3 := by omega
        rcases this with rfl | rfl | rfl | rfl <;> (cases hbk; decide)
      have q0 : (0 : Int) ≤ (k : Int) := by omega
      have q1 : (k : Int) < 4 := by omega
      have HBK := Lib.hid hbk
      clear hbk
      go_upto_region 6 with fail
      go_cut [1] from 13 to 38 (fun v wx => ∃ g c, v = .slice (some ⟨g, 0, none⟩) (k * 8 + 4) c ∧ Hid (RuI w gn v (k * 8 + 4) ((rPlainB.take k).flatMap rRulesOf ++ [(1, b), (1, b ++ [64, 65, 81, 42]), (3, b ++ [58]), (6, 63 :: b)]) wx))
      case first =>
        have n1 : ¬ 9223372036854775807 < (bstr b).size + 4 := by omega
        have n2 : ¬ 9223372036854775807 < (bstr b).size + 1 := by omega
        have n3 : ¬ 9223372036854775807 < 1 + (bstr b).size := by omega
        have hcd : wr.drew.cell? ⟨gn, k, none⟩ = some (.string (bstr b)) := hc
        have hca : ∀ o : Obj, (wr.alloc o).drew.cell? ⟨gn, k, none⟩ = some (.string (bstr b)) := fun o => (Below.heap_alloc_cell wr o ⟨gn, k, none⟩ HR.out.lt).trans hc
        go_region_held3 (fun w' => w'.cell? ⟨gn, k, none⟩ = some (.string (bstr b))) (first | exact hcd | exact hca _ | exact m0 | go_keep)
          (first
            | (refine step_append_lies _ (by rfl) _ _ _ (by rfl) w.heap.size 191 i0 _ 2 24 Tryz.underlying187 hi0 hz0 hz1 hz2 rfl (by omega) (.slice va vn vc) _ _ (by rfl) (HR.out.own.drew.alloc _)
                ⟨wr.heap.size, 0, none⟩ 4 4 [.int .i64 1, .string (bstr b), .int .i64 1, .string (bstr b ++ ⟨#[64, 65, 81, 42]⟩), .int .i64 3, .string (bstr b ++ ⟨#[58]⟩), .int .i64 6, .string (⟨#[63]⟩ ++ bstr b)] (by rfl) (by rfl)
                (World.news_of_block (cs := #[.int .i64 1, .string (bstr b), .int .i64 1, .string (bstr b ++ ⟨#[64, 65, 81, 42]⟩), .int .i64 3, .string (bstr b ++ ⟨#[58]⟩), .int .i64 6, .string (⟨#[63]⟩ ++ bstr b)]) (t := 191) (fr := (0, 0)) (heap_alloc_new wr.drew _)) (by simp [Value.oneCell'])
                (by omega) (by unfold maxLen; omega) (by omega) (Nat.le_trans HR.out.bel.size (by show wr.heap.size ≤ (wr.heap.push _).size; rw [Array.size_push]; omega)) (wr.heap.size + 1) (World.size_alloc _ _) ?_; intro gg cap w10 hown1 hgrow hat hgl; have m0 := hgrow.cell (a := ⟨gn, k, none⟩) (hca _) (fun e => HR.out.ne e.symm)))
        go_wp2_with fail
        go_meet
        exact ⟨gg, cap, rfl, Lib.hid (HR.out.more (((Below.refl _ wr).alloc (Nat.le_refl _) _).drew) hown1 (by simp [ruCells, bstr, ByteArray.ext_iff]) hgrow (hat.imp id (fun e => by omega)) rfl)⟩
      case rest =>
        obtain ⟨g4, c4, rfl, HR4⟩ := hcut
        clear HR hc
        go_wp2_with fail
        go_loopw [1, 4] (fun v i wr => ∃ j : Nat, j ≤ 4 ∧ i = .int .i64 j ∧ (∃ a n c, v = .slice a n c) ∧ Hid (RuI w gn v (k * 8 + 4 + j) ((rPlainB.take k).flatMap rRulesOf ++ [(1, b), (1, b ++ [64, 65, 81, 42]), (3, b ++ [58]), (6, 63 :: b)] ++ (rPlainB.take j).map fun q => (6, 63 :: b ++ 58 :: q)) wr)) (fun _ i _ => 4 - (intOf i).toNat)
        case atStart => exact ⟨0, by omega, rfl, ⟨_, _, _, rfl⟩, by simpa using HR4⟩
        case round =>
          obtain ⟨j, hj, rfl, ⟨xa, xn, xc, rfl⟩, HX⟩ := hrel
          clear HR4
          by_cases hjt : j < 4
          · have d2 : decide ((j : Int) < 4) = true := by simp; omega
            obtain ⟨b2, hb2k⟩ : ∃ b, rPlainB[j]? = some b := ⟨_, List.getElem?_eq_getElem (by simpa [rPlainB] using hjt)⟩
            have hc := HX.out.row.cell HBK.out
            change wr.cell? ⟨gn, k, none⟩ = some (.string (bstr b)) at hc
            have hc2 := HX.out.row.cell hb2k
            change wr.cell? ⟨gn, j, none⟩ = some (.string (bstr b2)) at hc2
            have hbs2 : (bstr b2).size ≤ 7 := by
              have : j = 0 ∨ j = 1 ∨ j = 2 ∨ j = 3 := by omega
              rcases this with rfl | rfl | rfl | rfl <;> (cases hb2k; decide)
            have q2 : (0 : Int) ≤ (j : Int) := by omega
            have q3 : (j : Int) < 4 := by omega
            have HBJ := Lib.hid hb2k
            clear hb2k
            go_upto_region 10 with fail
            have n3 : ¬ 9223372036854775807 < 1 + (bstr b).size := by omega
            have n4 : ¬ 9223372036854775807 < (⟨#[63]⟩ ++ bstr b : ByteArray).size + 1 := by rw [ByteArray.size_append]; show ¬ 9223372036854775807 < 1 + _ + 1; omega
            have n5 : ¬ 9223372036854775807 < (⟨#[63]⟩ ++ bstr b ++ ⟨#[58]⟩ : ByteArray).size + (bstr b2).size := by rw [ByteArray.size_append, ByteArray.size_append]; show ¬ 9223372036854775807 < 1 + _ + 1 + _; omega
            have n6 : ¬ 9223372036854775807 < 1 + (bstr b).size + 1 := by omega
            have n7 : ¬ 9223372036854775807 < 1 + (bstr b).size + 1 + (bstr b2).size := by omega
            have hcd : wr.drew.cell? ⟨gn, k, none⟩ = some (.string (bstr b)) := hc
            have hcd2 : wr.drew.cell? ⟨gn, j, none⟩ = some (.string (bstr b2)) := hc2
            have hca : ∀ o : Obj, (wr.alloc o).drew.cell? ⟨gn, k, none⟩ = some (.string (bstr b)) := fun o => (Below.heap_alloc_cell wr o ⟨gn, k, none⟩ HX.out.lt).trans hc
            have hca2 : ∀ o : Obj, (wr.alloc o).drew.cell? ⟨gn, j, none⟩ = some (.string (bstr b2)) := fun o => (Below.heap_alloc_cell wr o ⟨gn, j, none⟩ HX.out.lt).trans hc2
            go_region_held3 (fun w' => w'.cell? ⟨gn, k, none⟩ = some (.string (bstr b)) ∧ w'.cell? ⟨gn, j, none⟩ = some (.string (bstr b2))) (first | exact ⟨hcd, hcd2⟩ | exact ⟨hca _, hca2 _⟩ | exact ⟨m0, m1⟩ | go_keep)
              (first
                | (refine step_append_lies _ (by rfl) _ _ _ (by rfl) w.heap.size 191 i0 _ 2 24 Tryz.underlying187 hi0 hz0 hz1 hz2 rfl (by omega) (.slice xa xn xc) _ _ (by rfl) (HX.out.own.drew.alloc _)
                    ⟨wr.heap.size, 0, none⟩ 1 1 [.int .i64 6, .string (⟨#[63]⟩ ++ bstr b ++ ⟨#[58]⟩ ++ bstr b2)] (by rfl) (by rfl)
                    (World.news_of_block (cs := #[.int .i64 6, .string (⟨#[63]⟩ ++ bstr b ++ ⟨#[58]⟩ ++ bstr b2)]) (t := 191) (fr := (0, 0)) (heap_alloc_new wr.drew _)) (by simp [Value.oneCell'])
                    (by omega) (by unfold maxLen; omega) (by omega) (Nat.le_trans HX.out.bel.size (by show wr.heap.size ≤ (wr.heap.push _).size; rw [Array.size_push]; omega)) (wr.heap.size + 1) (World.size_alloc _ _) ?_; intro gg cap w10 hown1 hgrow hat hgl; have m0 := hgrow.cell (a := ⟨gn, k, none⟩) (hca _) (fun e => HX.out.ne e.symm); have m1 := hgrow.cell (a := ⟨gn, j, none⟩) (hca2 _) (fun e => HX.out.ne e.symm)))
            have hY := HX.out.more (l' := [(6, 63 :: b ++ 58 :: b2)]) (((Below.refl _ wr).alloc (Nat.le_refl _) _).drew) hown1 (by simp [ruCells, bstr, ByteArray.ext_iff]) hgrow (hat.imp id (fun e => by omega)) rfl
            rw [List.append_assoc] at hY
            have HR5 := Lib.hid hY
            clear hY
            go_wp2_with fail
            go_roundw
            case rel => exact ⟨j + 1, by omega, rfl, ⟨_, _, _, rfl⟩, Lib.hid (by
              have h := HR5.out
              rw [List.take_add_one, HBJ.out, List.map_append]
              exact h)⟩
            case measure => simp [intOf] <;> omega
          · have d2 : decide ((j : Int) < 4) = false := by simp; omega
            have hje : j = 4 := by omega
            subst hje
            go_wp2_with fail
            go_roundw
            case rel => exact ⟨k + 1, by omega, rfl, ⟨_, _, _, rfl⟩, Lib.hid (by
              have h := HX.out
              rw [List.append_assoc] at h
              rw [show (k + 1) * 8 = k * 8 + 4 + 4 from by omega, List.take_add_one, HBK.out, List.flatMap_append]
              simpa [rRulesOf, rPlainB] using h)⟩
            case measure => simp [intOf] <;> omega
    · have d1 : decide ((k : Int) < 4) = false := by simp; omega
      have hke : k = 4 := by omega
      subst hke
      go_wp2_with (at_builtin; refine wpList_append_lies _ rfl (.tmp 60) (.tmp 65) 187 rfl w.heap.size 191 i0 _ 2 24 Tryz.underlying187 hi0 hz0 hz1 hz2 rfl (by omega) (.slice va vn vc) _ _ (by rfl) (HR.out.own.alloc _) ⟨wr.heap.size, 0, none⟩ 4 4 [.int .i64 2, .string ⟨#[68, 68, 42]⟩, .int .i64 2, .string ⟨#[45, 68, 68, 42]⟩, .int .i64 4, .string ⟨#[35, 116]⟩, .int .i64 4, .string ⟨#[35, 102]⟩] (by rfl) (by rfl) (World.news_of_block (cs := #[.int .i64 2, .string ⟨#[68, 68, 42]⟩, .int .i64 2, .string ⟨#[45, 68, 68, 42]⟩, .int .i64 4, .string ⟨#[35, 116]⟩, .int .i64 4, .string ⟨#[35, 102]⟩]) (t := 191) (fr := (0, 0)) (heap_alloc_new wr _)) (by simp [Value.oneCell']) (by omega) (by unfold maxLen; omega) (by omega) (Nat.le_trans HR.out.bel.size (by show wr.heap.size ≤ (wr.heap.push _).size; rw [Array.size_push]; omega)) (wr.heap.size + 1) (World.size_alloc _ _) ?_; intro gg cap w10 hown1 hgrow hat hgl)
      go_ret
      have hY := HR.out.more (l' := [(2, [68, 68, 42]), (2, [45, 68, 68, 42]), (4, [35, 116]), (4, [35, 102])]) ((Below.refl _ wr).alloc (Nat.le_refl _) _) hown1 rfl hgrow (hat.imp id (fun e => by omega)) rfl
      exact ⟨_, rfl, hY.own, hY.bel⟩
end Go.Proofs.YtopbmndjnjnmcaaGreatDoor

namespace Go.Proofs.YtopbmndjnjnmcaaGreatDoor
open Go.RowKit Lx

attribute [local go_sem] Oper.semAt_some

theorem extract_list (s : ByteArray) (a b : Nat) : (s.extract a b).data.toList = (s.data.toList.drop a).take (b - a) := by
  rw [ByteArray.data_extract, Array.toList_extract, List.extract_eq_take_drop]

set_option maxRecDepth 100000 in
set_option maxHeartbeats 4000000 in
/-- **begins** -/
theorem refBegins_any (s : ByteArray) (i : Nat) (hs : s.size ≤ 20000) (hi : i ≤ s.size) (w : World) :
    Calls Tryz.prog 152 #[.string s, .int .i64 i] w fun e W => (∃ b : ByteArray, e = .returned (.string b) ∧ b.data.toList = rBegin s.data.toList i) ∧ W = w := by
  have q0 : (0 : Int) ≤ (i : Int) := by omega
  have q1 : (i : Int) ≤ (s.size : Int) := by omega
  have hb : Hid ((s.extract i (min (s.size : Int) ((i : Int) + 100)).toNat).data.toList = rBegin s.data.toList i) := Lib.hid (by
    rw [extract_list]; unfold rBegin
    by_cases h : s.size ≤ i + 100
    · rw [show (min (s.size : Int) ((i : Int) + 100)).toNat = s.size from by omega]
      rw [List.take_of_length_le (by simp), List.take_of_length_le (by simp; omega)]
    · rw [show (min (s.size : Int) ((i : Int) + 100)).toNat = i + 100 from by omega, show i + 100 - i = 100 from by omega])
  have q2 : (i : Int) ≤ min (s.size : Int) ((i : Int) + 100) := by omega
  have q3 : min (s.size : Int) ((i : Int) + 100) ≤ (s.size : Int) := by omega
  go_enter Tryz.func152, Tryz.ntmps152
  go_wp2_with fail
  go_ret
  exact ⟨⟨_, rfl, hb.out⟩, rfl⟩

theorem rColon_get (s : ByteArray) (i : Nat) (h : i + 1 < s.size) : rColon s.data.toList i = (s[i + 1] == 58 || s[i + 1] == 61) := by
  unfold rColon; rw [byte_get s (i + 1) h]; rfl
theorem u8_eq (a : UInt8) (n : Nat) (hn : n < 256) : ((a.toNat : Int) == (n : Int)) = (a == UInt8.ofNat n) := by
  rw [Bool.eq_iff_iff, beq_iff_eq, beq_iff_eq]
  constructor
  · intro h; apply UInt8.toNat_inj.1; rw [UInt8.toNat_ofNat']; omega
  · intro h; subst h; rw [UInt8.toNat_ofNat']; omega

set_option maxRecDepth 100000 in
set_option maxHeartbeats 4000000 in
/-- **colon** -/
theorem refColon_any (s : ByteArray) (i : Nat) (hi : i ≤ 30000) (w : World) :
    Calls Tryz.prog 171 #[.string s, .int .i64 i] w fun e W => e = .returned (.bool (rColon s.data.toList i)) ∧ W = w := by
  by_cases h : i + 1 < s.size
  · have d1 : decide ((i : Int) + 1 < (s.size : Int)) = true := by simp; omega
    have q0 : (0 : Int) ≤ (i : Int) + 1 := by omega
    have q1 : (i : Int) + 1 < (s.size : Int) := by omega
    have hc : Hid (rColon s.data.toList i = (((s[i + 1].toNat : Int) == 58) || ((s[i + 1].toNat : Int) == 61))) := Lib.hid (by
      rw [rColon_get s i h]
      have h1 : ((s[i + 1].toNat : Int) == 58) = (s[i + 1] == 58) := u8_eq s[i + 1] 58 (by omega)
      have h2 : ((s[i + 1].toNat : Int) == 61) = (s[i + 1] == 61) := u8_eq s[i + 1] 61 (by omega)
      rw [h1, h2])
    cases c1 : ((s[i + 1].toNat : Int) == 58)
    · go_enter Tryz.func171, Tryz.ntmps171
      go_wp2_with fail
      go_ret
      exact ⟨by rw [hc.out, c1]; rfl, rfl⟩
    · go_enter Tryz.func171, Tryz.ntmps171
      go_wp2_with fail
      go_ret
      exact ⟨by rw [hc.out, c1]; rfl, rfl⟩
  · have d1 : decide ((i : Int) + 1 < (s.size : Int)) = false := by simp; omega
    have hc : Hid (rColon s.data.toList i = false) := Lib.hid (by
      unfold rColon; rw [List.getElem?_eq_none (by simp; omega)]; rfl)
    go_enter Tryz.func171, Tryz.ntmps171
    go_wp2_with fail
    go_ret
    exact ⟨by rw [hc.out]; rfl, rfl⟩
end Go.Proofs.YtopbmndjnjnmcaaGreatDoor

namespace Go.Proofs.YtopbmndjnjnmcaaGreatDoor
open Go.RowKit Lx

attribute [local go_sem] Oper.semAt_some

/-- What a pattern's text is. -/
structure PatOK (p : ByteArray) : Prop where
  pos : 1 ≤ p.size
  le : p.size ≤ 1000
  two : ∀ h : 1 < p.size, p[1] ≠ 42

theorem rBegin_len (l : Bs) (i : Nat) : (rBegin l i).length ≤ 100 ∧ (rBegin l i).length ≤ l.length - i := by
  unfold rBegin; rw [List.length_take, List.length_drop]; omega
theorem rLen_le (l : Bs) (i : Nat) (p : Bs) : rLen l i p ≤ 100 ∧ rLen l i p ≤ l.length - i := by
  have := rLong_le (rItems p) (rBegin l i)
  have := rBegin_len l i
  unfold rLen; omega

set_option maxRecDepth 100000 in
set_option maxHeartbeats 8000000 in
/-- **allowed** -/
theorem refAllowed_any (s p : ByteArray) (i k : Nat) (hs : s.size ≤ 20000) (hi : i ≤ s.size) (hp : PatOK p) (w : World) :
    Calls Tryz.prog 153 #[.agg #[.int .i64 k, .string p], .string s, .int .i64 i] w fun e W => e = .returned (.bool (rAllowed s.data.toList i (k, p.data.toList))) ∧ Below w.heap.size w W := by
  obtain ⟨n, hn⟩ : ∃ n, rLen s.data.toList i p.data.toList = n := ⟨_, rfl⟩
  have hnl := rLen_le s.data.toList i p.data.toList
  rw [hn] at hnl
  have HN := Lib.hid hn
  simp only [Array.length_toList, ByteArray.size_data] at hnl
  clear hn
  go_enter Tryz.func153, Tryz.ntmps153
  go_upto_region 1 with fail
  go_cut [7] from 9 to 14 (fun v wx => v = .int .i64 n ∧ wx.cell? ⟨w.heap.size, 0, none⟩ = some (.int .i64 k) ∧ Below w.heap.size w wx)
  case first =>
    have hb0 := (Below.refl w.heap.size w).alloc (Nat.le_refl _) (.cells #[.int .i64 k, .string p] 191)
    have z0 : (w.alloc (.cells #[.int .i64 k, .string p] 191)).drew.cell? ⟨w.heap.size, 0, none⟩ = some (.int .i64 k) := by rw [show (w.alloc (.cells #[.int .i64 k, .string p] 191)).drew.cell? ⟨w.heap.size, 0, none⟩ = (w.alloc (.cells #[.int .i64 k, .string p] 191)).cell? ⟨w.heap.size, 0, none⟩ from rfl, cell_of_row _ _ _ _ _ _ (heap_alloc_new w _)]; rfl
    have z1 : (w.alloc (.cells #[.int .i64 k, .string p] 191)).drew.cell? ⟨w.heap.size, 1, none⟩ = some (.string p) := by rw [show (w.alloc (.cells #[.int .i64 k, .string p] 191)).drew.cell? ⟨w.heap.size, 1, none⟩ = (w.alloc (.cells #[.int .i64 k, .string p] 191)).cell? ⟨w.heap.size, 1, none⟩ from rfl, cell_of_row _ _ _ _ _ _ (heap_alloc_new w _)]; rfl
    have hsz : w.heap.size < (w.alloc (.cells #[.int .i64 k, .string p] 191)).drew.heap.size := lt_drew_alloc w _
    have hb1 := hb0.drew
    go_region_held3 (fun w' => w'.cell? ⟨w.heap.size, 0, none⟩ = some (.int .i64 k) ∧ w'.cell? ⟨w.heap.size, 1, none⟩ = some (.string p)) (first | exact ⟨z0, z1⟩ | exact ⟨m0, m1⟩ | go_keep)
      (first
        | (go_at_call 152; refine (refBegins_any s i hs hi _).mono ?_; rintro e w9 ⟨⟨b, rfl, hbg⟩, rfl⟩)
        | (go_at_call 151; refine (refLongest_any p b hp.pos hp.le (by have := congrArg List.length hbg; simp at this; have := rBegin_len s.data.toList i; omega) hp.two _).mono ?_; rintro e w9 ⟨rfl, hb9⟩; have m0 : w9.cell? ⟨w.heap.size, 0, none⟩ = _ := (hb9.cell (p := ⟨w.heap.size, 0, none⟩) hsz).trans z0; have m1 : w9.cell? ⟨w.heap.size, 1, none⟩ = _ := (hb9.cell (p := ⟨w.heap.size, 1, none⟩) hsz).trans z1))
    go_wp2_with fail
    go_meet
    refine ⟨?_, m0, hb1.trans (hb9.mono (Nat.le_of_lt hsz))⟩
    rw [← HN.out]; rfl
  case rest =>
    obtain ⟨rfl, hc0, hb⟩ := hcut
    by_cases h0 : n = 0
    · have d1 : ((n : Int) == 0) = true := beq_iff_eq.2 (by omega)
      have hr : Hid (rAllowed s.data.toList i (k, p.data.toList) = false) := Lib.hid (by
        unfold rAllowed; rw [HN.out, if_pos h0])
      clear h0
      go_wp2_with fail
      go_ret
      exact ⟨by rw [hr.out]; rfl, hb⟩
    · have d1 : ((n : Int) == 0) = false := beq_eq_false_iff_ne.2 (by omega)
      by_cases h3 : k = 3
      · have d3 : ((k : Int) == 3) = true := beq_iff_eq.2 (by omega)
        have hr : Hid (rAllowed s.data.toList i (k, p.data.toList) = !rColon s.data.toList (i + n - 1)) := Lib.hid (by
          unfold rAllowed; rw [HN.out, if_neg h0, if_pos h3])
        have q1 : (i : Int) + (n : Int) - 1 = ((i + n - 1 : Nat) : Int) := by omega
        clear h3
        go_wp2_with fail
        refine (refColon_any s (i + n - 1) (by omega) _).mono ?_
        rintro e w2 ⟨rfl, rfl⟩
        go_wp2_with fail
        go_ret
        exact ⟨by rw [hr.out]; rfl, hb⟩
      · have d3 : ((k : Int) == 3) = false := beq_eq_false_iff_ne.2 (by omega)
        by_cases h6 : k = 6
        · have d6 : ((k : Int) == 6) = true := beq_iff_eq.2 (by omega)
          obtain ⟨f, hf⟩ : ∃ f, Lib.indexByte ((s.data.toList.drop i).take n) 58 = f := ⟨_, rfl⟩
          have hlist : (s.extract i (i + n)).data.toList = (s.data.toList.drop i).take n := by rw [extract_list, show i + n - i = n from by omega]
          have hfind := fun W => find_any (s.extract i (i + n)) 58 (by rw [ByteArray.size_extract]; unfold maxLen; omega) W
          rw [hlist, hf] at hfind
          have hr : Hid (rAllowed s.data.toList i (k, p.data.toList) = (decide (f < 0) || !rColon s.data.toList (i + f.toNat))) := Lib.hid (by
            unfold rAllowed; rw [HN.out, if_neg h0, if_neg h3, if_pos h6, hf])
          have q0 : (0 : Int) ≤ (i : Int) := by omega
          have q1 : (i : Int) ≤ (i : Int) + (n : Int) := by omega
          have q2 : (i : Int) + (n : Int) ≤ (s.size : Int) := by omega
          have HF := Lib.hid hf
          clear hf h3 h6 hlist
          by_cases hneg : f < 0
          · have dn : decide (f < 0) = true := by simpa using hneg
            go_wp2_with fail
            refine (hfind _).mono ?_
            rintro e w2 ⟨rfl, rfl⟩
            go_wp2_with fail
            go_ret
            exact ⟨by rw [hr.out, dn]; rfl, hb⟩
          · have dn : decide (f < 0) = false := by simpa using hneg
            obtain ⟨q, rfl⟩ : ∃ q : Nat, f = q := ⟨f.toNat, by omega⟩
            have hq : q < n := by
              have h := index_at ((s.data.toList.drop i).take n) 58 (by rw [HF.out]; omega)
              rw [HF.out] at h
              have := (List.getElem?_eq_some_iff.1 h).1
              rw [List.length_take] at this
              simp at this; omega
            go_wp2_with fail
            refine (hfind _).mono ?_
            rintro e w2 ⟨rfl, rfl⟩
            go_wp2_with fail
            refine (refColon_any s (i + q) (by omega) _).mono ?_
            rintro e w2 ⟨rfl, rfl⟩
            go_wp2_with fail
            go_ret
            exact ⟨by rw [hr.out, dn]; rfl, hb⟩
        · have d6 : ((k : Int) == 6) = false := beq_eq_false_iff_ne.2 (by omega)
          have hr : Hid (rAllowed s.data.toList i (k, p.data.toList) = true) := Lib.hid (by
            unfold rAllowed; rw [HN.out, if_neg h0, if_neg h3, if_neg h6])
          clear h3 h6
          go_wp2_with fail
          go_ret
          exact ⟨by rw [hr.out]; rfl, hb⟩
end Go.Proofs.YtopbmndjnjnmcaaGreatDoor

namespace Go.Proofs.YtopbmndjnjnmcaaGreatDoor
open Go.RowKit Lx

attribute [local go_sem] Oper.semAt_some

set_option maxRecDepth 100000 in
set_option maxHeartbeats 2000000 in
/-- **blank** -/
theorem refBlank_any (c : Nat) (w : World) : Calls Tryz.prog 136 #[.int .u8 c] w fun e W => e = .returned (.bool (((c : Int) == 32) || ((c : Int) == 9) || ((c : Int) == 10) || ((c : Int) == 13))) ∧ W = w := by
  cases h1 : ((c : Int) == 32) <;> cases h2 : ((c : Int) == 9) <;> cases h3 : ((c : Int) == 10) <;> cases h4 : ((c : Int) == 13)
  all_goals
    go_enter Tryz.func136, Tryz.ntmps136
    go_wp2_with fail
    go_ret
    exact ⟨rfl, rfl⟩
theorem blank_is (c : Nat) : (((c : Int) == 32) || ((c : Int) == 9) || ((c : Int) == 10) || ((c : Int) == 13)) = qCls 7 c := by
  rw [Bool.eq_iff_iff]
  simp [qCls, cBlank]
  omega

theorem whole_list (t : ByteArray) : t.toList = t.data.toList := by
  have h := Lib.extract_toList t 0 t.size
  rw [ByteArray.extract_zero_size] at h
  rw [h, List.drop_zero, Nat.sub_zero]
  exact List.take_of_length_le (by simp)
/-- Whether a token is an operand. -/
def rOper (k : Nat) (t : Bs) : Bool := (k == 1) || (k == 2) || (k == 4) || ((k == 5) && ((t == [41]) || (t == [93])))

set_option maxRecDepth 100000 in
set_option maxHeartbeats 4000000 in
/-- **operand** -/
theorem refOperand_any (k : Nat) (t : ByteArray) (w : World) : Calls Tryz.prog 121 #[.int .i64 k, .string t] w fun e W => e = .returned (.bool (rOper k t.data.toList)) ∧ W = w := by
  have hr : Hid (rOper k t.data.toList = (((k : Int) == 1) || ((k : Int) == 2) || ((k : Int) == 4) || (((k : Int) == 5) && ((t.toList == [41]) || (t.toList == [93]))))) := Lib.hid (by
    have e : ∀ n : Nat, ((k : Int) == (n : Int)) = (k == n) := fun n => by rw [Bool.eq_iff_iff, beq_iff_eq, beq_iff_eq]; omega
    have e1 : ((k : Int) == 1) = (k == 1) := e 1
    have e2 : ((k : Int) == 2) = (k == 2) := e 2
    have e4 : ((k : Int) == 4) = (k == 4) := e 4
    have e5 : ((k : Int) == 5) = (k == 5) := e 5
    rw [e1, e2, e4, e5, whole_list]; rfl)
  cases h1 : ((k : Int) == 1) <;> cases h2 : ((k : Int) == 2) <;> cases h4 : ((k : Int) == 4) <;> cases h5 : ((k : Int) == 5) <;> cases h6 : (t.toList == [41]) <;> cases h7 : (t.toList == [93])
  all_goals
    go_enter Tryz.func121, Tryz.ntmps121
    go_wp2_with fail
    go_ret
    exact ⟨by rw [hr.out, h1, h2, h4, h5, h6, h7]; rfl, rfl⟩
end Go.Proofs.YtopbmndjnjnmcaaGreatDoor

namespace Go.Proofs.YtopbmndjnjnmcaaGreatDoor
open Go.RowKit Lx

attribute [local go_sem] Oper.semAt_some

theorem nestL_open (l : Bs) (n d : Nat) (h : (l.take 2 == [47, 42]) = true) : qNestGo l n d = if d = 100 then (6, 0) else qNestGo (l.drop 2) (n + 2) (d + 1) := by
  match l, h with
  | [a], h => simp at h
  | a :: b :: t, h => exact if_pos h
theorem nestL_close (l : Bs) (n d : Nat) (h0 : (l.take 2 == [47, 42]) = false) (h : (l.take 2 == [42, 47]) = true) : qNestGo l n d = if d = 1 then (0, n + 2) else qNestGo (l.drop 2) (n + 2) (d - 1) := by
  match l, h0, h with
  | [a], h0, h => simp at h
  | a :: b :: t, h0, h => exact (if_neg (by rw [show ([a, b] == [47, 42]) = false from h0]; simp)).trans (if_pos h)
theorem nestL_other (l : Bs) (n d : Nat) (hl : 0 < l.length) (h0 : (l.take 2 == [47, 42]) = false) (h : (l.take 2 == [42, 47]) = false) : qNestGo l n d = qNestGo (l.drop 1) (n + 1) d := by
  match l, hl, h0, h with
  | [a], _, _, _ => rfl
  | a :: b :: t, _, h0, h => exact (if_neg (by rw [show ([a, b] == [47, 42]) = false from h0]; simp)).trans (if_neg (by rw [show ([a, b] == [42, 47]) = false from h]; simp))
theorem nestL_nil (l : Bs) (n d : Nat) (h : l.length = 0) : qNestGo l n d = (13, 0) := by
  rw [List.length_eq_zero_iff.1 h]; rfl

/-- A cut's value. -/
def cutV (er kind at_ len : Nat) : Value := .agg #[.int .i64 (kind : Int), .int .i64 (at_ : Int), .int .i64 (len : Int), .int .i64 (er : Int)]
def rComment (l : Bs) (i : Nat) : Value := if (qComment l).1 ≠ 0 then cutV (qComment l).1 0 0 0 else if (qComment l).2 = 0 then cutV 0 0 0 0 else cutV 0 8 i (qComment l).2

theorem rComment_line (l : Bs) (i n : Nat) (h : (l.take 2 == [47, 47]) = true) (hn : 0 < n) (he : (if (0 : Int) ≤ Lib.indexByte l 10 then (Lib.indexByte l 10).toNat else l.length) = n) : rComment l i = cutV 0 8 i n := by
  have hq : qComment l = (0, n) := by rw [qC_line l h, he]
  unfold rComment; rw [hq]
  show (if (0 : Nat) ≠ 0 then _ else if n = 0 then _ else _) = _
  rw [if_neg (by simp), if_neg (by omega)]
theorem rComment_er (l : Bs) (i a : Nat) (ha : a ≠ 0) (hq : qComment l = (a, 0)) : rComment l i = cutV a 0 0 0 := by
  unfold rComment; rw [hq]; exact if_pos ha
theorem rComment_ok (l : Bs) (i n : Nat) (hn : 0 < n) (hq : qComment l = (0, n)) : rComment l i = cutV 0 8 i n := by
  unfold rComment; rw [hq]
  show (if (0 : Nat) ≠ 0 then _ else if n = 0 then _ else _) = _
  rw [if_neg (by simp), if_neg (by omega)]
theorem take2_at (s : ByteArray) (i : Nat) (h : i + 2 ≤ s.size) : (s.data.toList.drop i).take 2 = [s[i], s[i + 1]] := by
  rw [drop2 s i h]; rfl
theorem info67 : (Tryz.prog.info? 152).map (·.size) = some 4 := by kernel_rfl
theorem cut_ret {fn : Func} {tmps : Array Value} {W : World} {g : Nat} {cs : Array Value} {Post : Ending → World → Prop} (hf : fn.results = #[.cell 4 152]) (hp : tmps.getD 4 undef = .pointer (some ⟨g, 0, none⟩)) (hg : W.heap[g]? = some (.cells cs 152 (0, 0))) (hs : cs.size = 4) (h : Post (.returned (.agg cs)) W) :
    bodyPost Tryz.prog fn Post Exit.ret { tmps := tmps, defers := [] } W :=
  bodyPost_ret (results_cell_row hf tmps W g 152 cs (0, 0) _ hp hg Tryz.underlying152 rfl (by rw [hs]; exact info67)) rfl h

set_option maxRecDepth 100000 in
set_option maxHeartbeats 8000000 in
/-- **comment** -/
theorem refComment_any (s : ByteArray) (i : Nat) (hs : s.size ≤ 20000) (hi : i < s.size) (w : World) :
    Calls Tryz.prog 135 #[.string s, .int .i64 i] w fun e W => e = .returned (rComment (s.data.toList.drop i) i) ∧ Below w.heap.size w W := by
  by_cases h2 : s.size < i + 2
  · have d1 : decide ((s.size : Int) - (i : Int) < 2) = true := by simp; omega
    have hr : Hid (rComment (s.data.toList.drop i) i = cutV 0 0 0 0) := Lib.hid (by
      have hq : qComment (s.data.toList.drop i) = (0, 0) := by
        have hlen : (s.data.toList.drop i).length = 1 := by rw [List.length_drop]; simp; omega
        match hm : s.data.toList.drop i, hlen with
        | [a], _ => exact qC_none _ (by simp) (by simp)
      unfold rComment; rw [hq]; rfl)
    go_enter Tryz.func135, Tryz.ntmps135
    go_wp2_with fail
    refine cut_ret rfl rfl (heap_alloc_new w _) rfl ?_
    exact ⟨by rw [hr.out]; rfl, (Below.refl _ w).alloc (Nat.le_refl _) _⟩
  · have d1 : decide ((s.size : Int) - (i : Int) < 2) = false := by simp; omega
    have h2' : i + 2 ≤ s.size := by omega
    have ht := take2_at s i h2'
    have q0 : (0 : Int) ≤ (i : Int) := by omega
    have q1 : (i : Int) < (s.size : Int) := by omega
    have q2 : (0 : Int) ≤ (i : Int) + 1 := by omega
    have q3 : (i : Int) + 1 < (s.size : Int) := by omega
    have u0 : ((s[i].toNat : Int) != 47) = (s[i] != 47) := by unfold bne; rw [show ((s[i].toNat : Int) == 47) = (s[i] == 47) from u8_eq s[i] 47 (by omega)]
    have u1 : ((s[i + 1].toNat : Int) != 47) = (s[i + 1] != 47) := by unfold bne; rw [show ((s[i + 1].toNat : Int) == 47) = (s[i + 1] == 47) from u8_eq s[i + 1] 47 (by omega)]
    have u2 : ((s[i + 1].toNat : Int) != 42) = (s[i + 1] != 42) := by unfold bne; rw [show ((s[i + 1].toNat : Int) == 42) = (s[i + 1] == 42) from u8_eq s[i + 1] 42 (by omega)]
    have e1 : ((s.data.toList.drop i).take 2 == [47, 47]) = (!((s[i].toNat : Int) != 47) && !((s[i + 1].toNat : Int) != 47)) := by
      rw [ht, u0, u1]; simp [bne]
    have e2 : ((s.data.toList.drop i).take 2 == [47, 42]) = (!((s[i].toNat : Int) != 47) && !((s[i + 1].toNat : Int) != 42)) := by
      rw [ht, u0, u2]; simp [bne]
    have E1 := Lib.hid e1
    have E2 := Lib.hid e2
    clear ht u0 u1 u2 e1 e2
    have hnone : (!((s[i].toNat : Int) != 47) && !((s[i + 1].toNat : Int) != 47)) = false → (!((s[i].toNat : Int) != 47) && !((s[i + 1].toNat : Int) != 42)) = false → Hid (rComment (s.data.toList.drop i) i = cutV 0 0 0 0) := fun a b => Lib.hid (by
      unfold rComment; rw [qC_none _ (E1.out.trans a) (E2.out.trans b)]; rfl)
    cases a0 : ((s[i].toNat : Int) != 47)
    · cases a1 : ((s[i + 1].toNat : Int) != 47)
      · clear hnone
        go_enter Tryz.func135, Tryz.ntmps135
        go_wp2_with fail
        have hl2 : (s.data.toList.drop i).take 2 == [47, 47] := E1.out.trans (by rw [a0, a1]; rfl)
        have hq : Hid (∀ q : Nat, q < 2 → (s.data.toList.drop i)[q]? ≠ some 10) := Lib.hid (fun q hq e => by
          have h3 : ((s.data.toList.drop i).take 2)[q]? = some 10 := by rw [List.getElem?_take, if_pos hq]; exact e
          rw [eq_of_beq hl2] at h3
          have : q = 0 ∨ q = 1 := by omega
          rcases this with rfl | rfl <;> simp at h3)
        have HL := Lib.hid hl2
        clear hl2 a0 a1
        go_loop [5] (fun x => ∃ n : Nat, 2 ≤ n ∧ i + n ≤ s.size ∧ x = .int .i64 n ∧ Hid (∀ q : Nat, q < n → (s.data.toList.drop i)[q]? ≠ some 10)) (fun x => s.size - (intOf x).toNat)
        case atStart => exact ⟨2, by omega, by omega, rfl, hq⟩
        case round =>
          obtain ⟨n, hn2, hn, rfl, HQ⟩ := hrel
          by_cases hlt : i + n < s.size
          · have d2 : decide ((i : Int) + (n : Int) < (s.size : Int)) = true := by simp; omega
            have r0 : (0 : Int) ≤ (i : Int) + (n : Int) := by omega
            have r1 : (i : Int) + (n : Int) < (s.size : Int) := by omega
            have hby : (s.data.toList.drop i)[n]? = some s[i + n] := by rw [List.getElem?_drop]; exact byte_get s (i + n) hlt
            have u3 : ((s[i + n].toNat : Int) != 10) = (s[i + n] != 10) := by unfold bne; rw [show ((s[i + n].toNat : Int) == 10) = (s[i + n] == 10) from u8_eq s[i + n] 10 (by omega)]
            cases a3 : ((s[i + n].toNat : Int) != 10)
            · have heq : s[i + n] = 10 := by rw [a3] at u3; simpa [bne] using u3.symm
              have hr : Hid (rComment (s.data.toList.drop i) i = cutV 0 8 i n) := Lib.hid (by
                have hix := first_byte 10 (v := s.data.toList.drop i) (k := n) (by rw [hby, heq]) HQ.out
                exact rComment_line _ i n HL.out (by omega) (by rw [hix, if_pos (Int.natCast_nonneg n)]; exact Int.toNat_natCast n))
              clear u3 hby heq
              go_wp2_with fail
              refine cut_ret rfl rfl (heap_alloc_new w _) rfl ?_
              exact ⟨by rw [hr.out]; rfl, (Below.refl _ w).alloc (Nat.le_refl _) _⟩
            · have hne : Hid (s[i + n] ≠ 10) := Lib.hid (by rw [a3] at u3; simpa [bne] using u3.symm)
              have HB := Lib.hid hby
              clear u3 hby
              go_wp2_with fail
              go_round
              case rel => exact ⟨n + 1, by omega, by omega, rfl, Lib.hid (fun q hq => by
                by_cases h : q = n
                · subst h; rw [HB.out]; simpa using hne.out
                · exact HQ.out q (by omega))⟩
              case measure => simp [intOf] <;> omega
          · have d2 : decide ((i : Int) + (n : Int) < (s.size : Int)) = false := by simp; omega
            have hr : Hid (rComment (s.data.toList.drop i) i = cutV 0 8 i n) := Lib.hid (by
              have hlen : (s.data.toList.drop i).length = n := by rw [List.length_drop]; simp; omega
              have hix := no_byte 10 (v := s.data.toList.drop i) (fun q e => HQ.out q (by have := (List.getElem?_eq_some_iff.1 e).1; omega) e)
              exact rComment_line _ i n HL.out (by omega) (by rw [hix, if_neg (by decide)]; exact hlen))
            go_wp2_with fail
            refine cut_ret rfl rfl (heap_alloc_new w _) rfl ?_
            exact ⟨by rw [hr.out]; rfl, (Below.refl _ w).alloc (Nat.le_refl _) _⟩
      · cases a2 : ((s[i + 1].toNat : Int) != 42)
        · have hst : Hid (qComment (s.data.toList.drop i) = qNestGo ((s.data.toList.drop i).drop 2) 2 1) := Lib.hid (by
            have e1 : ((s.data.toList.drop i).take 2 == [47, 47]) = false := E1.out.trans (by rw [a1]; simp)
            have e2 : ((s.data.toList.drop i).take 2 == [47, 42]) = true := E2.out.trans (by rw [a0, a2]; rfl)
            rw [qC_nest _ e1 e2]
            unfold qNest
            rw [nestL_open _ 0 0 e2, if_neg (by omega)])
          clear hnone
          go_enter Tryz.func135, Tryz.ntmps135
          go_wp2_with fail
          clear a0 a1 a2
          go_loop [5, 6, 7] (fun x y _ => ∃ (n d : Nat), 2 ≤ n ∧ i + n ≤ s.size ∧ d ≤ 100 ∧ x = .int .i64 n ∧ y = .int .i64 d ∧ Hid (d = 0 → qComment (s.data.toList.drop i) = (0, n)) ∧ Hid (0 < d → qComment (s.data.toList.drop i) = qNestGo ((s.data.toList.drop i).drop n) n d)) (fun x _ _ => s.size - (intOf x).toNat)
          case atStart => exact ⟨2, 1, by omega, by omega, by omega, rfl, rfl, Lib.hid (fun h => by omega), Lib.hid (fun _ => hst.out)⟩
          case round =>
            obtain ⟨n, d, hn2, hn, hd, rfl, rfl, HZ, HP⟩ := hrel
            by_cases hd0 : d = 0
            · have d2 : decide ((0 : Int) < (d : Int)) = false := decide_eq_false (by omega)
              have d2b : decide (0 < d) = false := decide_eq_false (by omega)
              have hr : Hid (rComment (s.data.toList.drop i) i = cutV 0 8 i n) := Lib.hid (rComment_ok _ i n (by omega) (HZ.out hd0))
              clear hd0
              go_wp2_with fail
              refine cut_ret rfl rfl (heap_alloc_new w _) rfl ?_
              exact ⟨by rw [hr.out]; rfl, (Below.refl _ w).alloc (Nat.le_refl _) _⟩
            · have d2 : decide ((0 : Int) < (d : Int)) = true := decide_eq_true (by omega)
              have d2b : decide (0 < d) = true := decide_eq_true (by omega)
              have hP := HP.out (by omega)
              by_cases hlt : i + n < s.size
              · have d3 : decide ((i : Int) + (n : Int) < (s.size : Int)) = true := by simp; omega
                have r0 : (0 : Int) ≤ (i : Int) + (n : Int) := by omega
                have r1 : (i : Int) + (n : Int) ≤ min (s.size : Int) ((i : Int) + (n : Int) + 2) := by omega
                have r2 : min (s.size : Int) ((i : Int) + (n : Int) + 2) ≤ (s.size : Int) := by omega
                have r3 : ((i : Int) + (n : Int)).toNat = i + n := by omega
                have hlen : 0 < ((s.data.toList.drop i).drop n).length := by rw [List.length_drop, List.length_drop]; simp; omega
                have htwo : (s.extract (i + n) (min (s.size : Int) ((i : Int) + (n : Int) + 2)).toNat).toList = ((s.data.toList.drop i).drop n).take 2 := by
                  rw [Lib.toList_data, extract_list, List.drop_drop]
                  by_cases h : s.size ≤ i + n + 2
                  · rw [show (min (s.size : Int) ((i : Int) + (n : Int) + 2)).toNat = s.size from by omega]
                    rw [List.take_of_length_le (by simp), List.take_of_length_le (by simp; omega)]
                  · rw [show (min (s.size : Int) ((i : Int) + (n : Int) + 2)).toNat = i + n + 2 from by omega, show i + n + 2 - (i + n) = 2 from by omega]
                obtain ⟨two, h2b⟩ : ∃ two, s.extract (i + n) (min (s.size : Int) ((i : Int) + (n : Int) + 2)).toNat = two := ⟨_, rfl⟩
                rw [h2b] at htwo
                have HT := Lib.hid htwo
                have HPP := Lib.hid hP
                clear htwo hP
                have h2n : ∀ c : Bs, c.length = 2 → (two.toList == c) = true → i + n + 2 ≤ s.size := fun c hc h => by
                  have := congrArg List.length (eq_of_beq h)
                  rw [HT.out, List.length_take, List.length_drop, List.length_drop, hc] at this
                  simp at this; omega
                cases c1 : (two.toList == [47, 42])
                · cases c2 : (two.toList == [42, 47])
                  · have hN : Hid (qComment (s.data.toList.drop i) = qNestGo ((s.data.toList.drop i).drop (n + 1)) (n + 1) d) := Lib.hid (by
                      rw [HPP.out, nestL_other _ n d hlen (by rw [← HT.out]; exact c1) (by rw [← HT.out]; exact c2), List.drop_drop])
                    clear hlen
                    go_wp2_with fail
                    go_round
                    case rel => exact ⟨n + 1, d, by omega, by omega, by omega, rfl, rfl, Lib.hid (fun h => by omega), Lib.hid (fun _ => hN.out)⟩
                    case measure => simp [intOf] <;> omega
                  · have hsz2 := h2n _ rfl c2
                    have hN : Hid (qComment (s.data.toList.drop i) = if d = 1 then (0, n + 2) else qNestGo ((s.data.toList.drop i).drop (n + 2)) (n + 2) (d - 1)) := Lib.hid (by
                      rw [HPP.out, nestL_close _ n d (by rw [← HT.out]; exact c1) (by rw [← HT.out]; exact c2), List.drop_drop])
                    have r4 : (d : Int) - 1 = ((d - 1 : Nat) : Int) := by omega
                    clear hlen h2n
                    go_wp2_with fail
                    go_round
                    case rel => exact ⟨n + 1 + 1, d - 1, by omega, by omega, by omega, rfl, rfl, Lib.hid (fun h => by rw [hN.out, if_pos (by omega)]), Lib.hid (fun h => by rw [hN.out, if_neg (by omega)])⟩
                    case measure => simp [intOf] <;> omega
                · have hsz2 := h2n _ rfl c1
                  have hN : Hid (qComment (s.data.toList.drop i) = if d = 100 then (6, 0) else qNestGo ((s.data.toList.drop i).drop (n + 2)) (n + 2) (d + 1)) := Lib.hid (by
                    rw [HPP.out, nestL_open _ n d (by rw [← HT.out]; exact c1), List.drop_drop])
                  clear hlen h2n
                  by_cases h100 : d = 100
                  · have d4 : decide ((100 : Int) < (d : Int) + 1) = true := by simp; omega
                    have hr : Hid (rComment (s.data.toList.drop i) i = cutV 6 0 0 0) := Lib.hid (rComment_er _ i 6 (by omega) (by rw [hN.out, if_pos h100]))
                    clear h100
                    go_wp2_with fail
                    refine cut_ret rfl rfl (heap_alloc_new w _) rfl ?_
                    exact ⟨by rw [hr.out]; rfl, (Below.refl _ w).alloc (Nat.le_refl _) _⟩
                  · have d4 : decide ((100 : Int) < (d : Int) + 1) = false := by simp; omega
                    go_wp2_with fail
                    go_round
                    case rel => exact ⟨n + 1 + 1, d + 1, by omega, by omega, by omega, rfl, rfl, Lib.hid (fun h => by omega), Lib.hid (fun _ => by rw [hN.out, if_neg h100])⟩
                    case measure => simp [intOf] <;> omega
              · have d3 : decide ((i : Int) + (n : Int) < (s.size : Int)) = false := by simp; omega
                have hr : Hid (rComment (s.data.toList.drop i) i = cutV 13 0 0 0) := Lib.hid (rComment_er _ i 13 (by omega) (by
                  rw [hP, nestL_nil _ n d (by rw [List.length_drop, List.length_drop]; simp; omega)]))
                clear hP
                go_wp2_with fail
                refine cut_ret rfl rfl (heap_alloc_new w _) rfl ?_
                exact ⟨by rw [hr.out]; rfl, (Below.refl _ w).alloc (Nat.le_refl _) _⟩
        · have hr := hnone (by rw [a1]; simp) (by rw [a2]; simp)
          clear hnone
          go_enter Tryz.func135, Tryz.ntmps135
          go_wp2_with fail
          refine cut_ret rfl rfl (heap_alloc_new w _) rfl ?_
          exact ⟨by rw [hr.out]; rfl, (Below.refl _ w).alloc (Nat.le_refl _) _⟩
    · have hr := hnone (by rw [a0]; rfl) (by rw [a0]; rfl)
      clear hnone
      go_enter Tryz.func135, Tryz.ntmps135
      go_wp2_with fail
      refine cut_ret rfl rfl (heap_alloc_new w _) rfl ?_
      exact ⟨by rw [hr.out]; rfl, (Below.refl _ w).alloc (Nat.le_refl _) _⟩
end Go.Proofs.YtopbmndjnjnmcaaGreatDoor

