/- Package lex: isOperand and take. -/
import Derived.WalkKit
import Derived.WalkLawsBesides
import Derived.WalkSpells
import Derived.WalkSmall
import Derived.Lib.Hide
import Derived.BigQuiet
import Derived.BigRegion
import Derived.RegionTactic
import Derived.ChangeAlike
import Derived.Deep.QuietTactic
import Derived.Deep.RegionHeld3
import Derived.Maps.AppendAt
import Derived.RangeFuncBox
import Derived.Test.YtopbmndjnjnmcaaGreatDoorA9
namespace Go.Proofs.YtopbmndjnjnmcaaGreatDoor
open Go.RowKit Lx

/-- Whether a token makes a - behind it a sign. -/
def qOper (l : Bs) (i kind : Nat) : Bool := kind == 1 || kind == 2 || kind == 4 || (kind == 5 && (l[i]? == some 41 || l[i]? == some 93))

set_option maxHeartbeats 2000000 in
theorem isOperand_any (s : ByteArray) (b i t : Nat) (kind : Nat) (op : Bool) (hi : i < s.size) (w : World) (hc : Cut w b s i t op) :
    Calls Tryz.prog 161 #[.pointer (some ⟨b, 0, none⟩), .int .i64 kind] w fun e w' => e = .returned (.bool (qOper s.data.toList i kind)) ∧ Below w.heap.size w w' := by
  obtain ⟨h0, h1, _, _⟩ := hc
  have hi0 : (0 : Int) ≤ (i : Int) := by omega
  have hi1 : (i : Int) < (s.size : Int) := by omega
  have H41 := Lib.hid (at_byte s i hi 41)
  have H93 := Lib.hid (at_byte s i hi 93)
  by_cases k1 : kind = 1
  · subst k1
    go_enter Tryz.func161, Tryz.ntmps161
    go_wp2
    go_ret
    exact ⟨rfl, Below.refl _ _⟩
  by_cases k2 : kind = 2
  · subst k2
    go_enter Tryz.func161, Tryz.ntmps161
    go_wp2
    go_ret
    exact ⟨rfl, Below.refl _ _⟩
  by_cases k4 : kind = 4
  · subst k4
    go_enter Tryz.func161, Tryz.ntmps161
    go_wp2
    go_ret
    exact ⟨rfl, Below.refl _ _⟩
  by_cases k5 : kind = 5
  · subst k5
    cases h41 : ((s[i].toNat : Int) == 41)
    · cases h93 : ((s[i].toNat : Int) == 93)
      all_goals
        have hv : Hid (qOper s.data.toList i 5 = ((s[i].toNat : Int) == 93)) := Lib.hid (by unfold qOper; rw [H41.out, H93.out]; show (false || (true && ((((s[i].toNat : Int) == 41)) || ((s[i].toNat : Int) == 93)))) = _; rw [h41]; simp)
        go_enter Tryz.func161, Tryz.ntmps161
        go_wp2
        go_quiet (fail)
        go_wp2
        go_ret
        exact ⟨by rw [hv.out, h93]; rfl, bl _ _⟩
    · have hv : Hid (qOper s.data.toList i 5 = true) := Lib.hid (by unfold qOper; rw [H41.out, H93.out]; show (false || (true && ((((s[i].toNat : Int) == 41)) || ((s[i].toNat : Int) == 93)))) = _; rw [h41]; simp)
      go_enter Tryz.func161, Tryz.ntmps161
      go_wp2
      go_quiet (fail)
      go_wp2
      go_ret
      exact ⟨by rw [hv.out]; rfl, bl _ _⟩
  · have hv : Hid (qOper s.data.toList i kind = false) := Lib.hid (by unfold qOper; simp [k1, k2, k4, k5])
    have a1 : ((kind : Int) == 1) = false := by simp; omega
    have a2 : ((kind : Int) == 2) = false := by simp; omega
    have a4 : ((kind : Int) == 4) = false := by simp; omega
    have a5 : ((kind : Int) == 5) = false := by simp; omega
    clear k1 k2 k4 k5
    go_enter Tryz.func161, Tryz.ntmps161
    go_wp2
    go_ret
    exact ⟨by rw [hv.out]; rfl, Below.refl _ _⟩

/-- The block of a cutter. -/
def CutB (w : World) (b : Nat) (s : ByteArray) (i t : Nat) (op : Bool) : Prop :=
  w.heap[b]? = some (.cells #[.string s, .int .i64 (i : Int), .int .i64 (t : Int), .bool op] 179 (0, 0))
theorem CutB.lt {w : World} {b : Nat} {s : ByteArray} {i t : Nat} {op : Bool} (h : CutB w b s i t op) : b < w.heap.size := (Array.getElem?_eq_some_iff.1 h).1
theorem CutB.cut {w : World} {b : Nat} {s : ByteArray} {i t : Nat} {op : Bool} (h : CutB w b s i t op) : Cut w b s i t op := by
  have h' : w.heap[b]? = _ := h
  exact ⟨by simp [World.cell?, h'], by simp [World.cell?, h'], by simp [World.cell?, h'], by simp [World.cell?, h']⟩
theorem CutB.frozen {w : World} {b : Nat} {s : ByteArray} {i t : Nat} {op : Bool} (h : CutB w b s i t op) (j : Nat) : w.frozen? ⟨b, j, none⟩ = false := by
  have h' : w.heap[b]? = _ := h
  simp [World.frozen?, h']
theorem CutB.kept {w w' : World} {b : Nat} {s : ByteArray} {i t : Nat} {op : Bool} {row : Option Nat} (h : CutB w b s i t op) (hg : w.grownBy w' row) (hne : some b ≠ row) : CutB w' b s i t op := (hg.block b h.lt hne).trans h
theorem CutB.below {w w' : World} {b : Nat} {s : ByteArray} {i t : Nat} {op : Bool} (h : CutB w b s i t op) (hb : Below w.heap.size w w') : CutB w' b s i t op := (hb.block b h.lt).trans h

theorem heap_set (w : World) (b j : Nat) (cs : Array Value) (t : TypeId) (fr : Nat × Nat) (v : Value) (h : w.heap[b]? = some (.cells cs t fr)) :
    (w.setCell ⟨b, j, none⟩ v).heap[b]? = some (.cells (cs.setIfInBounds j v) t fr) := by
  obtain ⟨hlt, hk⟩ := Array.getElem?_eq_some_iff.1 h
  show (w.heap.modify b _)[b]? = _
  rw [Array.getElem?_eq_getElem (by rw [Array.size_modify]; exact hlt), Array.getElem_modify_self, hk]
  rfl
theorem CutB.set1 {w : World} {b : Nat} {s : ByteArray} {i t : Nat} {op : Bool} (h : CutB w b s i t op) (i' : Nat) : CutB (w.setCell ⟨b, 1, none⟩ (.int .i64 (i' : Int))) b s i' t op := heap_set w b 1 _ _ _ _ h
theorem CutB.set2 {w : World} {b : Nat} {s : ByteArray} {i t : Nat} {op : Bool} (h : CutB w b s i t op) (t' : Nat) : CutB (w.setCell ⟨b, 2, none⟩ (.int .i64 (t' : Int))) b s i t' op := heap_set w b 2 _ _ _ _ h
theorem CutB.set3 {w : World} {b : Nat} {s : ByteArray} {i t : Nat} {op : Bool} (h : CutB w b s i t op) (op' : Bool) : CutB (w.setCell ⟨b, 3, none⟩ (.bool op')) b s i t op' := heap_set w b 3 _ _ _ _ h
theorem grown_set (W : World) (b j : Nat) (v : Value) : W.grownBy (W.setCell ⟨b, j, none⟩ v) (some b) :=
  ⟨rfl, rfl, rfl, (KeepsWalks.setCell W _ v).size, fun k _ hk => Below.heap_setCell _ _ _ k (fun e => hk (by rw [e]))⟩
theorem grown_bl {w w' : World} (h : Below w.heap.size w w') (row : Option Nat) : w.grownBy w' row := ⟨h.os, h.tape, h.output, h.size, fun k hk _ => h.block k hk⟩

theorem CutB.up {w : World} {b : Nat} {s : ByteArray} {i t : Nat} {op : Bool} (h : CutB w b s i t op) : CutB (w.setCell ⟨b, 2, none⟩ (.int .i64 ((t : Int) + 1))) b s i (t + 1) op := heap_set w b 2 _ _ _ _ h
theorem CutB.on {w : World} {b : Nat} {s : ByteArray} {i t : Nat} {op : Bool} (h : CutB w b s i t op) (n : Nat) : CutB (w.setCell ⟨b, 1, none⟩ (.int .i64 ((i : Int) + (n : Int)))) b s (i + n) t op := heap_set w b 1 _ _ _ _ h
theorem CutB.alloc {w : World} {b : Nat} {s : ByteArray} {i t : Nat} {op : Bool} (h : CutB w b s i t op) (o : Obj) : CutB (w.alloc o) b s i t op := h.kept (World.grownBy_alloc w o none) (by simp)

set_option maxHeartbeats 2000000 in
theorem take_ok (s : ByteArray) (b i t n : Nat) (kind : Nat) (op : Bool) (hi : i < s.size) (hn : i + n ≤ s.size) (hs : s.size ≤ 20000) (ht : t < 6000) (hk : kind < 7) (w : World) (hc : CutB w b s i t op) :
    Calls Tryz.prog 143 #[.pointer (some ⟨b, 0, none⟩), .agg #[.int .i64 kind, .int .i64 i, .int .i64 n]] w fun e w' => e = .returned (.tuple #[]) ∧ CutB w' b s (i + n) (t + 1) (qOper s.data.toList i kind) ∧ w.grownBy w' (some b) := by
  have HB := Lib.hid hc
  obtain ⟨h0, h1, h2, h3⟩ := hc.cut
  have f1 := hc.frozen 1
  have f2 := hc.frozen 2
  have f3 := hc.frozen 3
  have lb := hc.lt
  have ht' : ((t : Int) == 6000) = false := by simp; omega
  clear hc
  go_enter Tryz.func143, Tryz.ntmps143
  go_wp2_with fail
  refine (isOperand_any s b i (t + 1) kind op hi _ ((HB.out.up.alloc _).cut)).mono ?_
  rintro e w2 ⟨rfl, hb⟩
  have HB2 := Lib.hid ((HB.out.up.alloc _).below hb)
  have HG2 := Lib.hid (((grown_set w b 2 _).trans (World.grownBy_alloc _ _ _)).trans (grown_bl hb (some b)))
  have lb2 := HB2.out.lt
  have hp : w2.cell? ⟨w.heap.size, 2, none⟩ = some (.int .i64 n) := (hb.cell (p := ⟨w.heap.size, 2, none⟩) (by simp [World.setCell])).trans (by simp [go_sem])
  have lp := World.block_lt_of_cell? w2 _ hp
  obtain ⟨g0, g1, g2, g3⟩ := HB2.out.cut
  have q1 := HB2.out.frozen 1
  have q3 := HB2.out.frozen 3
  have hsum : IntKind.i64.wrap ((i : Int) + (n : Int)) = (i : Int) + (n : Int) := IntWalk.i64_in _ (by omega)
  have hne : ¬ w.heap.size = b := by omega
  clear hb h0 h1 h2 h3 f1 f2 f3
  go_wp2_with fail
  go_region
  go_wp2
  go_end0
  exact ⟨rfl, ((HB2.out.set3 _).on n), ((HG2.out.trans (grown_set w2 b 3 _)).trans (grown_set _ b 1 _)).trans (grown_bl (bl _ 1) _)⟩

set_option maxHeartbeats 2000000 in
theorem take_skip (s : ByteArray) (b i t n : Nat) (kind : Nat) (op : Bool) (hn : i + n ≤ s.size) (hs : s.size ≤ 20000) (hk : 7 ≤ kind) (w : World) (hc : CutB w b s i t op) :
    Calls Tryz.prog 143 #[.pointer (some ⟨b, 0, none⟩), .agg #[.int .i64 kind, .int .i64 i, .int .i64 n]] w fun e w' => e = .returned (.tuple #[]) ∧ CutB w' b s (i + n) t op ∧ w.grownBy w' (some b) := by
  have HB := Lib.hid hc
  obtain ⟨h0, h1, h2, h3⟩ := hc.cut
  have f1 := hc.frozen 1
  have lb := hc.lt
  have hsum : IntKind.i64.wrap ((i : Int) + (n : Int)) = (i : Int) + (n : Int) := IntWalk.i64_in _ (by omega)
  have hne : ¬ w.heap.size = b := by omega
  clear hc hn hs
  go_enter Tryz.func143, Tryz.ntmps143
  go_wp2_with fail
  go_region
  go_wp2
  go_end0
  exact ⟨rfl, (HB.out.on n).alloc _, ((grown_set w b 1 _).trans (World.grownBy_alloc _ _ _)).trans (grown_bl (bl _ 1) _)⟩

set_option maxHeartbeats 2000000 in
theorem take_bad (s : ByteArray) (b i n : Nat) (kind : Nat) (op : Bool) (hk : kind < 7) (w : World) (hc : CutB w b s i 6000 op) :
    Calls Tryz.prog 143 #[.pointer (some ⟨b, 0, none⟩), .agg #[.int .i64 kind, .int .i64 i, .int .i64 n]] w fun e w' => e = refusal 2 i ∧ Below w.heap.size w w' := by
  have HB := Lib.hid hc
  obtain ⟨h0, h1, h2, h3⟩ := hc.cut
  have lb := hc.lt
  clear hc
  go_enter Tryz.func143, Tryz.ntmps143
  go_wp2_with fail
  refine (refuse_any s b i 6000 op _ _ (HB.out.cut.below ((Below.refl _ _).alloc (Nat.le_refl _) _))).mono ?_
  rintro e w' ⟨rfl, rfl⟩
  go_wp2_with fail
  exact ⟨rfl, rfl, (Below.refl _ _).alloc (Nat.le_refl _) _⟩
end Go.Proofs.YtopbmndjnjnmcaaGreatDoor
