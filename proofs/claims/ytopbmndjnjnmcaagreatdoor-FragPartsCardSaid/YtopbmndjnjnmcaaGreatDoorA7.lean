/- Package lex: longest. -/
import Derived.WalkKit
import Derived.WalkLawsBesides
import Derived.WalkSpells
import Derived.Lib.Hide
import Derived.Laws.EntriesVeiled
import Derived.Test.YtopbmndjnjnmcaaGreatDoorA6
namespace Go.Proofs.YtopbmndjnjnmcaaGreatDoor
open Go.RowKit Lx

/-- How much the rule at an index takes. -/
def qLen (l : Bs) (op : Bool) : Nat → Nat
  | 0 => qName l
  | 1 => qInt l op
  | 2 => qKey l
  | 3 => qHash l
  | 4 => qSign l
  | _ => qPat l
/-- The best of the first k rules. -/
def qB (l : Bs) (op : Bool) : Nat → Nat × Nat
  | 0 => (0, 0)
  | k + 1 => qBetter (qB l op k) (k + 1) (qLen l op k)
theorem qB_6 (l : Bs) (op : Bool) : qB l op 6 = qLongest l op := rfl

theorem rule_any (k : Nat) (hk : k < 6) (s : ByteArray) (b i t : Nat) (op : Bool) (hi : i < s.size) (hs : s.size ≤ 20000) (w : World) (hc : Cut w b s i t op) :
    Calls Tryz.prog (176 + k) #[.pointer (some ⟨b, 0, none⟩)] w fun e w' => e = .returned (.int .i64 (qLen (qLook s i) op k : Nat)) ∧ Below w.heap.size w w' := by
  have : k = 0 ∨ k = 1 ∨ k = 2 ∨ k = 3 ∨ k = 4 ∨ k = 5 := by omega
  rcases this with rfl | rfl | rfl | rfl | rfl | rfl
  · exact name_any s b i t op hi hs w hc
  · exact integer_any s b i t op hi hs w hc
  · exact keyword_any s b i t op hi hs w hc
  · exact hash_any s b i t op hi hs w hc
  · exact sign_any s b i t op hi hs w hc
  · exact pattern_any s b i t op hi hs w hc

theorem rule_ex (k f : Nat) (hk : k < 6) (hf : f = 176 + k) (s : ByteArray) (b i t : Nat) (op : Bool) (hi : i < s.size) (hs : s.size ≤ 20000) (w : World) (hc : Cut w b s i t op) :
    Calls Tryz.prog f #[.pointer (some ⟨b, 0, none⟩)] w fun e w' => ∃ m : Nat, e = .returned (.int .i64 m) ∧ Hid (qLen (qLook s i) op k = m) ∧ Below w.heap.size w w' := by
  subst hf
  exact (rule_any k hk s b i t op hi hs w hc).mono fun _ _ ⟨he, hb⟩ => ⟨_, he, Lib.hid rfl, hb⟩

/-- The list of the rules in memory. -/
def Rules (w : World) (r : Nat) : Prop := ∀ k : Nat, k < 6 → w.cell? ⟨r, 2 * k, none⟩ = some (.int .i64 ((k + 1 : Nat) : Int)) ∧ w.cell? ⟨r, 2 * k + 1, none⟩ = some (.func (.func (176 + k)) #[] #[])
theorem Rules.below {w w' : World} {r : Nat} (h : Rules w r) (hb : Below w.heap.size w w') : Rules w' r := fun k hk =>
  have lt := World.block_lt_of_cell? w _ (h k hk).1
  ⟨(hb.cell (p := ⟨r, 2 * k, none⟩) lt).trans (h k hk).1, (hb.cell (p := ⟨r, 2 * k + 1, none⟩) lt).trans (h k hk).2⟩
theorem Rules.new (w : World) : Rules (w.alloc (.cells #[.int .i64 1, .func (.func 176) #[] #[], .int .i64 2, .func (.func 177) #[] #[], .int .i64 3, .func (.func 178) #[] #[], .int .i64 4, .func (.func 179) #[] #[], .int .i64 5, .func (.func 180) #[] #[], .int .i64 6, .func (.func 181) #[] #[]] 214)) w.heap.size := by
  intro k hk
  have : k = 0 ∨ k = 1 ∨ k = 2 ∨ k = 3 ∨ k = 4 ∨ k = 5 := by omega
  rcases this with rfl | rfl | rfl | rfl | rfl | rfl <;> exact ⟨by simp [go_sem], by simp [go_sem]⟩

theorem qB_up (l : Bs) (op : Bool) (k K S m : Nat) (h : Hid (qB l op k = (K, S))) (hm : Hid (qLen l op k = m)) (hlt : S < m) : Hid (qB l op (k + 1) = (k + 1, m)) := by
  have h1 := h.out; have h2 := hm.out
  refine Lib.hid ?_; simp only [qB, h1, h2, qBetter]; rw [if_pos hlt]
theorem qB_same (l : Bs) (op : Bool) (k K S m : Nat) (h : Hid (qB l op k = (K, S))) (hm : Hid (qLen l op k = m)) (hlt : ¬ S < m) : Hid (qB l op (k + 1) = (K, S)) := by
  have h1 := h.out; have h2 := hm.out
  refine Lib.hid ?_; simp only [qB, h1, h2, qBetter]; rw [if_neg hlt]

set_option maxHeartbeats 4000000 in
theorem longest_any (s : ByteArray) (b i t : Nat) (op : Bool) (hi : i < s.size) (hs : s.size ≤ 20000) (w : World) (hc : Cut w b s i t op) :
    Calls Tryz.prog 159 #[.pointer (some ⟨b, 0, none⟩)] w fun e w' => e = .returned (.tuple #[.int .i64 ((qLongest (qLook s i) op).1 : Nat), .int .i64 ((qLongest (qLook s i) op).2 : Nat)]) ∧ Below w.heap.size w w' := by
  have HC := Lib.hid hc
  clear hc
  have hR0 := Lib.hid (Rules.new w)
  go_enter Tryz.func159, Tryz.ntmps159
  go_wp2
  go_loopw [2, 3, 17] (fun kd sz ix wr => ∃ k K S : Nat, k ≤ 6 ∧ kd = .int .i64 K ∧ sz = .int .i64 S ∧ ix = .int .i64 k ∧ Hid (qB (qLook s i) op k = (K, S)) ∧ Hid (Rules wr w.heap.size) ∧ Hid (Cut wr b s i t op) ∧ Below w.heap.size w wr) (fun _ _ ix _ => 6 - (intOf ix).toNat)
  case atStart =>
    have hb0 := (Below.refl w.heap.size w).alloc (Nat.le_refl _) (.cells #[.int .i64 1, .func (.func 176) #[] #[], .int .i64 2, .func (.func 177) #[] #[], .int .i64 3, .func (.func 178) #[] #[], .int .i64 4, .func (.func 179) #[] #[], .int .i64 5, .func (.func 180) #[] #[], .int .i64 6, .func (.func 181) #[] #[]] 214)
    exact ⟨0, 0, 0, by omega, rfl, rfl, rfl, Lib.hid rfl, hR0, Lib.hid (HC.out.below hb0), hb0⟩
  case round =>
    obtain ⟨k, K, S, hk, rfl, rfl, rfl, hB, hR, hC, hb⟩ := hrel
    clear hR0 HC
    by_cases h6 : k = 6
    · subst h6
      go_wp2
      go_ret2
      exact ⟨by rw [← qB_6, hB.out]; rfl, hb⟩
    · obtain ⟨c0, c1⟩ := hR.out k (by omega)
      have hbA := fun o => hb.alloc hb.size o
      have : k = 0 ∨ k = 1 ∨ k = 2 ∨ k = 3 ∨ k = 4 ∨ k = 5 := by omega
      clear h6
      rcases this with rfl | rfl | rfl | rfl | rfl | rfl
      · simp only [Nat.reduceMul, Nat.reduceAdd, Nat.add_zero] at c0 c1
        go_wp2_with fail
        refine (rule_ex 0 176 (by decide) rfl s b i t op hi hs _ (hC.out.below ((Below.refl _ wr).alloc (Nat.le_refl _) _))).mono ?_
        rintro e w2 ⟨m, rfl, hM, hb2⟩
        have hb3 := bt (hbA _) hb2
        have hb4 := bt ((Below.refl _ wr).alloc (Nat.le_refl _) _) hb2
        have hc0 : w2.cell? ⟨wr.heap.size, 0, none⟩ = some (.int .i64 1) := (hb2.cell (p := ⟨wr.heap.size, 0, none⟩) (by simp)).trans (by simp [go_sem])
        by_cases hlt : S < m
        · go_wp2_with fail
          go_roundw
          case rel => exact ⟨1, 1, m, by omega, rfl, rfl, rfl, qB_up _ _ _ _ _ _ hB hM hlt, Lib.hid (hR.out.below hb4), Lib.hid (hC.out.below hb4), hb3⟩
          case measure => simp [intOf]
        · go_wp2_with fail
          go_roundw
          case rel => exact ⟨1, K, S, by omega, rfl, rfl, rfl, qB_same _ _ _ _ _ _ hB hM hlt, Lib.hid (hR.out.below hb4), Lib.hid (hC.out.below hb4), hb3⟩
          case measure => simp [intOf]
      · simp only [Nat.reduceMul, Nat.reduceAdd] at c0 c1
        go_wp2_with fail
        refine (rule_ex 1 177 (by decide) rfl s b i t op hi hs _ (hC.out.below ((Below.refl _ wr).alloc (Nat.le_refl _) _))).mono ?_
        rintro e w2 ⟨m, rfl, hM, hb2⟩
        have hb3 := bt (hbA _) hb2
        have hb4 := bt ((Below.refl _ wr).alloc (Nat.le_refl _) _) hb2
        have hc0 : w2.cell? ⟨wr.heap.size, 0, none⟩ = some (.int .i64 2) := (hb2.cell (p := ⟨wr.heap.size, 0, none⟩) (by simp)).trans (by simp [go_sem])
        by_cases hlt : S < m
        · go_wp2_with fail
          go_roundw
          case rel => exact ⟨2, 2, m, by omega, rfl, rfl, rfl, qB_up _ _ _ _ _ _ hB hM hlt, Lib.hid (hR.out.below hb4), Lib.hid (hC.out.below hb4), hb3⟩
          case measure => simp [intOf]
        · go_wp2_with fail
          go_roundw
          case rel => exact ⟨2, K, S, by omega, rfl, rfl, rfl, qB_same _ _ _ _ _ _ hB hM hlt, Lib.hid (hR.out.below hb4), Lib.hid (hC.out.below hb4), hb3⟩
          case measure => simp [intOf]
      · simp only [Nat.reduceMul, Nat.reduceAdd] at c0 c1
        go_wp2_with fail
        refine (rule_ex 2 178 (by decide) rfl s b i t op hi hs _ (hC.out.below ((Below.refl _ wr).alloc (Nat.le_refl _) _))).mono ?_
        rintro e w2 ⟨m, rfl, hM, hb2⟩
        have hb3 := bt (hbA _) hb2
        have hb4 := bt ((Below.refl _ wr).alloc (Nat.le_refl _) _) hb2
        have hc0 : w2.cell? ⟨wr.heap.size, 0, none⟩ = some (.int .i64 3) := (hb2.cell (p := ⟨wr.heap.size, 0, none⟩) (by simp)).trans (by simp [go_sem])
        by_cases hlt : S < m
        · go_wp2_with fail
          go_roundw
          case rel => exact ⟨3, 3, m, by omega, rfl, rfl, rfl, qB_up _ _ _ _ _ _ hB hM hlt, Lib.hid (hR.out.below hb4), Lib.hid (hC.out.below hb4), hb3⟩
          case measure => simp [intOf]
        · go_wp2_with fail
          go_roundw
          case rel => exact ⟨3, K, S, by omega, rfl, rfl, rfl, qB_same _ _ _ _ _ _ hB hM hlt, Lib.hid (hR.out.below hb4), Lib.hid (hC.out.below hb4), hb3⟩
          case measure => simp [intOf]
      · simp only [Nat.reduceMul, Nat.reduceAdd] at c0 c1
        go_wp2_with fail
        refine (rule_ex 3 179 (by decide) rfl s b i t op hi hs _ (hC.out.below ((Below.refl _ wr).alloc (Nat.le_refl _) _))).mono ?_
        rintro e w2 ⟨m, rfl, hM, hb2⟩
        have hb3 := bt (hbA _) hb2
        have hb4 := bt ((Below.refl _ wr).alloc (Nat.le_refl _) _) hb2
        have hc0 : w2.cell? ⟨wr.heap.size, 0, none⟩ = some (.int .i64 4) := (hb2.cell (p := ⟨wr.heap.size, 0, none⟩) (by simp)).trans (by simp [go_sem])
        by_cases hlt : S < m
        · go_wp2_with fail
          go_roundw
          case rel => exact ⟨4, 4, m, by omega, rfl, rfl, rfl, qB_up _ _ _ _ _ _ hB hM hlt, Lib.hid (hR.out.below hb4), Lib.hid (hC.out.below hb4), hb3⟩
          case measure => simp [intOf]
        · go_wp2_with fail
          go_roundw
          case rel => exact ⟨4, K, S, by omega, rfl, rfl, rfl, qB_same _ _ _ _ _ _ hB hM hlt, Lib.hid (hR.out.below hb4), Lib.hid (hC.out.below hb4), hb3⟩
          case measure => simp [intOf]
      · simp only [Nat.reduceMul, Nat.reduceAdd] at c0 c1
        go_wp2_with fail
        refine (rule_ex 4 180 (by decide) rfl s b i t op hi hs _ (hC.out.below ((Below.refl _ wr).alloc (Nat.le_refl _) _))).mono ?_
        rintro e w2 ⟨m, rfl, hM, hb2⟩
        have hb3 := bt (hbA _) hb2
        have hb4 := bt ((Below.refl _ wr).alloc (Nat.le_refl _) _) hb2
        have hc0 : w2.cell? ⟨wr.heap.size, 0, none⟩ = some (.int .i64 5) := (hb2.cell (p := ⟨wr.heap.size, 0, none⟩) (by simp)).trans (by simp [go_sem])
        by_cases hlt : S < m
        · go_wp2_with fail
          go_roundw
          case rel => exact ⟨5, 5, m, by omega, rfl, rfl, rfl, qB_up _ _ _ _ _ _ hB hM hlt, Lib.hid (hR.out.below hb4), Lib.hid (hC.out.below hb4), hb3⟩
          case measure => simp [intOf]
        · go_wp2_with fail
          go_roundw
          case rel => exact ⟨5, K, S, by omega, rfl, rfl, rfl, qB_same _ _ _ _ _ _ hB hM hlt, Lib.hid (hR.out.below hb4), Lib.hid (hC.out.below hb4), hb3⟩
          case measure => simp [intOf]
      · simp only [Nat.reduceMul, Nat.reduceAdd] at c0 c1
        go_wp2_with fail
        refine (rule_ex 5 181 (by decide) rfl s b i t op hi hs _ (hC.out.below ((Below.refl _ wr).alloc (Nat.le_refl _) _))).mono ?_
        rintro e w2 ⟨m, rfl, hM, hb2⟩
        have hb3 := bt (hbA _) hb2
        have hb4 := bt ((Below.refl _ wr).alloc (Nat.le_refl _) _) hb2
        have hc0 : w2.cell? ⟨wr.heap.size, 0, none⟩ = some (.int .i64 6) := (hb2.cell (p := ⟨wr.heap.size, 0, none⟩) (by simp)).trans (by simp [go_sem])
        by_cases hlt : S < m
        · go_wp2_with fail
          go_roundw
          case rel => exact ⟨6, 6, m, by omega, rfl, rfl, rfl, qB_up _ _ _ _ _ _ hB hM hlt, Lib.hid (hR.out.below hb4), Lib.hid (hC.out.below hb4), hb3⟩
          case measure => simp [intOf]
        · go_wp2_with fail
          go_roundw
          case rel => exact ⟨6, K, S, by omega, rfl, rfl, rfl, qB_same _ _ _ _ _ _ hB hM hlt, Lib.hid (hR.out.below hb4), Lib.hid (hC.out.below hb4), hb3⟩
          case measure => simp [intOf]
end Go.Proofs.YtopbmndjnjnmcaaGreatDoor
