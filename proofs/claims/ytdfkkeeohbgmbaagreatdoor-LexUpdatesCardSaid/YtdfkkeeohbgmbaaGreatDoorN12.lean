/- Package skerryref01: Change, and SamePieces of any pieces. -/
import Derived.Test.YtdfkkeeohbgmbaaGreatDoorQ4
namespace Go.Proofs.YtdfkkeeohbgmbaaGreatDoor
open Go.RowKit Lx

attribute [local go_sem] Oper.semAt_some
attribute [local go_sem ↓] pn_neq pn_guard

set_option maxHeartbeats 1000000 in
theorem refChange_bad (s ins : ByteArray) (x d : Int) (hm : s.size ≤ maxLen) (hf : ¬ Fits s x d) (w : World) :
    Calls Tryz.prog 15 #[.string s, SpV x d ins] w fun e W => e = .returned (.tuple #[.string ⟨#[]⟩, .int .i64 1]) ∧ Below w.heap.size w W := by
  unfold maxLen at hm
  unfold SpV
  have hb := (Below.refl w.heap.size w).alloc (Nat.le_refl _) (.cells #[.int .i64 x, .int .i64 d, .string ins] 40)
  cases h1 : decide (x < 0)
  · cases h2 : decide ((s.size : Int) < x)
    · have hx0 : 0 ≤ x := by simpa using h1
      have hx1 : x ≤ s.size := by simpa using h2
      cases h3 : decide (d < 0)
      · cases h4 : decide ((s.size : Int) - x < d)
        · exfalso; apply hf; simp at h1 h2 h3 h4; exact ⟨h1, h2, h3, h4⟩
        · clear hf
          go_enter Tryz.func15, Tryz.ntmps15
          go_wp2_with fail
          refine bodyPost_ret (v := .tuple #[.string ⟨#[]⟩, .int .i64 1]) (by simp [results, Tryz.results15, go_sem]) rfl ⟨rfl, hb⟩
      · clear hf
        go_enter Tryz.func15, Tryz.ntmps15
        go_wp2_with fail
        refine bodyPost_ret (v := .tuple #[.string ⟨#[]⟩, .int .i64 1]) (by simp [results, Tryz.results15, go_sem]) rfl ⟨rfl, hb⟩
    · clear hf
      go_enter Tryz.func15, Tryz.ntmps15
      go_wp2_with fail
      refine bodyPost_ret (v := .tuple #[.string ⟨#[]⟩, .int .i64 1]) (by simp [results, Tryz.results15, go_sem]) rfl ⟨rfl, hb⟩
  · clear hf
    go_enter Tryz.func15, Tryz.ntmps15
    go_wp2_with fail
    refine bodyPost_ret (v := .tuple #[.string ⟨#[]⟩, .int .i64 1]) (by simp [results, Tryz.results15, go_sem]) rfl ⟨rfl, hb⟩

set_option maxHeartbeats 1000000 in
theorem refChange_ok (s ins : ByteArray) (x d : Nat) (hm : s.size + ins.size ≤ maxLen) (hx : x ≤ s.size) (hd : d ≤ s.size - x) (w : World) :
    Calls Tryz.prog 15 #[.string s, SpV x d ins] w fun e W => e = .returned (.tuple #[.string (spliced s x d ins), .int .i64 0]) ∧ Below w.heap.size w W := by
  unfold maxLen at hm
  unfold SpV
  have hb := (Below.refl w.heap.size w).alloc (Nat.le_refl _) (.cells #[.int .i64 x, .int .i64 d, .string ins] 40)
  have h1 : decide ((x : Int) < 0) = false := by simp
  have h2 : decide (s.size < x) = false := by simp; omega
  have h3 : decide ((d : Int) < 0) = false := by simp
  have h4 : decide ((s.size : Int) - x < d) = false := by simp; omega
  go_enter Tryz.func15, Tryz.ntmps15
  go_wp2_with fail
  go_quiet (fail)
  go_wp2_with fail
  refine bodyPost_ret (v := .tuple #[.string (spliced s x d ins), .int .i64 0]) (by simp [results, Tryz.results15, go_sem, spliced]) rfl ⟨rfl, below_drewN hb _⟩

set_option maxHeartbeats 2000000 in
/-- **SamePieces** of pieces -/
theorem refSamePieces_eq (va vb : Value) (xs ys : List Pn) (w : World) (ha : PnRead w va xs) (hb : PnRead w vb ys) :
    Calls Tryz.prog 12 #[va, vb] w fun e W => e = .returned (.bool (decide (xs = ys))) ∧ Below w.heap.size w W := by
  obtain ⟨aa, ca, rfl, hma, hra⟩ := ha
  obtain ⟨ab, cb, rfl, hmb, hrb⟩ := hb
  have HA := Lib.hid hra
  have HB := Lib.hid hrb
  clear hra hrb
  unfold maxLen at hma hmb
  cases hl : ((xs.length : Int) == (ys.length : Int))
  · have hne : Hid (decide (xs = ys) = false) := Lib.hid (by simp at hl ⊢; exact fun h => hl (by rw [h]))
    go_enter Tryz.func12, Tryz.ntmps12
    go_wp2_with fail
    go_ret
    exact ⟨by rw [hne.out]; rfl, Below.refl _ _⟩
  · have hl' : xs.length = ys.length := by simp at hl; omega
    obtain ⟨n, hn⟩ : ∃ n, ys.length = n := ⟨_, rfl⟩
    rw [hn] at hl' hmb ⊢
    rw [hl'] at hma ⊢
    clear hl
    go_enter Tryz.func12, Tryz.ntmps12
    go_wp2_with fail
    go_loopw [5] (fun x wr => ∃ k : Nat, k ≤ n ∧ x = .int .i64 k ∧ Hid (xs.take k = ys.take k) ∧ Below w.heap.size w wr) (fun x _ => n - (intOf x).toNat)
    case atStart => exact ⟨0, by omega, rfl, Lib.hid rfl, Below.refl _ _⟩
    case round =>
      obtain ⟨k, hk, rfl, HT, hbw⟩ := hrel
      by_cases hlt : k < n
      · obtain ⟨p, hp⟩ : ∃ p, xs[k]? = some p := ⟨_, List.getElem?_eq_getElem (by omega)⟩
        obtain ⟨q, hq⟩ : ∃ q, ys[k]? = some q := ⟨_, List.getElem?_eq_getElem (by omega)⟩
        obtain ⟨ga, oa, rfl, hga, a0, a1, a2⟩ := HA.out k p hp
        obtain ⟨gb, ob, rfl, hgb, b0, b1, b2⟩ := HB.out k q hq
        have a0 := (hbw.cell (p := ⟨ga, _, none⟩) hga).trans a0
        have a1 := (hbw.cell (p := ⟨ga, _, none⟩) hga).trans a1
        have a2 := (hbw.cell (p := ⟨ga, _, none⟩) hga).trans a2
        have b0 := (hbw.cell (p := ⟨gb, _, none⟩) hgb).trans b0
        have b1 := (hbw.cell (p := ⟨gb, _, none⟩) hgb).trans b1
        have b2 := (hbw.cell (p := ⟨gb, _, none⟩) hgb).trans b2
        have hk0 : (0 : Int) ≤ (k : Int) := by omega
        have hk1 : (k : Int) < (n : Int) := by omega
        have HP := Lib.hid hp
        have HQ := Lib.hid hq
        clear hp hq
        cases hd : decide (p.kind = q.kind ∧ p.at_ = q.at_ ∧ p.len = q.len)
        · have hne : Hid (decide (xs = ys) = false) := Lib.hid (by
            simp only [decide_eq_false_iff_not] at hd ⊢
            intro h; apply hd; subst h
            have := HP.out.symm.trans HQ.out; cases this; exact ⟨rfl, rfl, rfl⟩)
          go_wp2_with fail
          go_quiet (fail)
          go_wp2_with fail
          go_ret
          exact ⟨by rw [hne.out]; rfl, below_drewN hbw _⟩
        · have hpq : p = q := by simp only [decide_eq_true_eq] at hd; cases p; cases q; simp_all
          have HT2 := Lib.hid (take_eq_succ HT.out HP.out (hpq ▸ HQ.out))
          go_wp2_with fail
          go_quiet (fail)
          go_wp2_with fail
          go_roundw
          case rel => exact ⟨k + 1, by omega, rfl, HT2, below_drewN hbw _⟩
          case measure => simp [intOf]; omega
      · have heq : Hid (decide (xs = ys) = true) := Lib.hid (by have := HT.out; rw [show k = n by omega, List.take_of_length_le (by omega), List.take_of_length_le (by omega)] at this; simpa using this)
        go_wp2_with fail
        go_ret
        exact ⟨by rw [heq.out]; rfl, hbw⟩
end Go.Proofs.YtdfkkeeohbgmbaaGreatDoor
