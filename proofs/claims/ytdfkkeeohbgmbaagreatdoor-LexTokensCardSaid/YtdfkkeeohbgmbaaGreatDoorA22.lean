/- Package lex: Change and the equality of pieces. -/
import Derived.Test.YtdfkkeeohbgmbaaGreatDoorA21
import Derived.Test.YtdfkkeeohbgmbaaGreatDoorEq
namespace Go.Proofs.YtdfkkeeohbgmbaaGreatDoor
open Go.RowKit Lx

attribute [local go_sem] Oper.semAt_some
attribute [local go_sem ↓] pn_neq pn_guard

/-- A splice xs a value. -/
def SpV (x d : Int) (ins : ByteArray) : Value := .agg #[.int .i64 x, .int .i64 d, .string ins]

/-- Whether a splice fits a text. -/
def Fits (s : ByteArray) (x d : Int) : Prop := 0 ≤ x ∧ x ≤ s.size ∧ 0 ≤ d ∧ d ≤ s.size - x

/-- A text with a splice. -/
def spliced (s : ByteArray) (x d : Nat) (ins : ByteArray) : ByteArray := s.extract 0 x ++ ins ++ s.extract (x + d) s.size

set_option maxHeartbeats 1000000 in
theorem change_bad (s ins : ByteArray) (x d : Int) (hm : s.size ≤ maxLen) (hf : ¬ Fits s x d) (w : World) :
    Calls Tryz.prog 14 #[.string s, SpV x d ins] w fun e W => e = .returned (.tuple #[.string ⟨#[]⟩, .int .i64 1]) ∧ Below w.heap.size w W := by
  unfold maxLen at hm
  unfold SpV
  have hb := (Below.refl w.heap.size w).alloc (Nat.le_refl _) (.cells #[.int .i64 x, .int .i64 d, .string ins] 40)
  cases h1 : decide (x < 0)
  · cases h2 : decide ((s.size : Int) < x)
    · have hx0 : 0 ≤ x := by simpa using h1
      have hx1 : x ≤ s.size := by simpa using h2
      cases h3 : decide (d < 0)
      · cases h4 : decide ((s.size : Int) - x < d)
        · exfalso; apply hf; simp at h1 h2 h3 h4; exact ⟨h1, h2, h3, h4⟩
        · clear hf
          go_enter Tryz.func14, Tryz.ntmps14
          go_wp2_with fail
          refine bodyPost_ret (v := .tuple #[.string ⟨#[]⟩, .int .i64 1]) (by simp [results, Tryz.results14, go_sem]) rfl ⟨rfl, hb⟩
      · clear hf
        go_enter Tryz.func14, Tryz.ntmps14
        go_wp2_with fail
        refine bodyPost_ret (v := .tuple #[.string ⟨#[]⟩, .int .i64 1]) (by simp [results, Tryz.results14, go_sem]) rfl ⟨rfl, hb⟩
    · clear hf
      go_enter Tryz.func14, Tryz.ntmps14
      go_wp2_with fail
      refine bodyPost_ret (v := .tuple #[.string ⟨#[]⟩, .int .i64 1]) (by simp [results, Tryz.results14, go_sem]) rfl ⟨rfl, hb⟩
  · clear hf
    go_enter Tryz.func14, Tryz.ntmps14
    go_wp2_with fail
    refine bodyPost_ret (v := .tuple #[.string ⟨#[]⟩, .int .i64 1]) (by simp [results, Tryz.results14, go_sem]) rfl ⟨rfl, hb⟩

set_option maxHeartbeats 1000000 in
theorem change_ok (s ins : ByteArray) (x d : Nat) (hm : s.size + ins.size ≤ maxLen) (hx : x ≤ s.size) (hd : d ≤ s.size - x) (w : World) :
    Calls Tryz.prog 14 #[.string s, SpV x d ins] w fun e W => e = .returned (.tuple #[.string (spliced s x d ins), .int .i64 0]) ∧ Below w.heap.size w W := by
  unfold maxLen at hm
  unfold SpV
  have hb := (Below.refl w.heap.size w).alloc (Nat.le_refl _) (.cells #[.int .i64 x, .int .i64 d, .string ins] 40)
  have h1 : decide ((x : Int) < 0) = false := by simp
  have h2 : decide (s.size < x) = false := by simp; omega
  have h3 : decide ((d : Int) < 0) = false := by simp
  have h4 : decide ((s.size : Int) - x < d) = false := by simp; omega
  go_enter Tryz.func14, Tryz.ntmps14
  go_wp2_with fail
  go_quiet (fail)
  go_wp2_with fail
  refine bodyPost_ret (v := .tuple #[.string (spliced s x d ins), .int .i64 0]) (by simp [results, Tryz.results14, go_sem, spliced]) rfl ⟨rfl, below_drewN hb _⟩

/-- A piece with any numbers. -/
structure Pn where
  kind : Int
  at_ : Int
  len : Int
instance : DecidableEq Pn := fun p q => if h : p.kind = q.kind ∧ p.at_ = q.at_ ∧ p.len = q.len then isTrue (by cases p; cases q; simp_all) else isFalse (fun e => h (by subst e; exact ⟨rfl, rfl, rfl⟩))
def Pc.n (p : Pc) : Pn := ⟨p.kind, p.at_, p.len⟩
theorem Pc.n_inj {p q : Pc} (h : p.n = q.n) : p = q := by
  cases p; cases q; simp only [Pc.n, Pn.mk.injEq] at h; simp only [Pc.mk.injEq]; omega

/-- A slice of pieces, to be read. -/
def PnRead (W : World) (v : Value) (ps : List Pn) : Prop :=
  ∃ a c, v = .slice a ps.length c ∧ (ps.length ≤ maxLen ∧ ps.length ≤ c) ∧ ∀ k p, ps[k]? = some p → ∃ g o, a = some ⟨g, o, none⟩ ∧ g < W.heap.size ∧ W.cell? ⟨g, o + k * 3, none⟩ = some (.int .i64 p.kind) ∧ W.cell? ⟨g, o + k * 3 + 1, none⟩ = some (.int .i64 p.at_) ∧ W.cell? ⟨g, o + k * 3 + 2, none⟩ = some (.int .i64 p.len)

theorem PnRead.bl {W W' : World} {v : Value} {ps : List Pn} (h : PnRead W v ps) (hb : Below W.heap.size W W') : PnRead W' v ps := by
  obtain ⟨a, c, hv, hm, h⟩ := h
  refine ⟨a, c, hv, hm, fun k p hk => ?_⟩
  obtain ⟨g, o, ha, hg, h1, h2, h3⟩ := h k p hk
  exact ⟨g, o, ha, Nat.lt_of_lt_of_le hg hb.size, (hb.cell (p := ⟨g, _, none⟩) hg).trans h1, (hb.cell (p := ⟨g, _, none⟩) hg).trans h2, (hb.cell (p := ⟨g, _, none⟩) hg).trans h3⟩

theorem pn_read {W : World} {base n : Nat} {v : Value} {ps : List Pc} (h : W.ownsRow base 59 3 v n (pcsCells ps)) (hm : n ≤ maxLen) : PnRead W v (ps.map Pc.n) := by
  have hl := h.1
  rw [pcsCells_len] at hl
  have hn : ps.length = n := by omega
  rcases h.2 with ⟨rfl, h0⟩ | ⟨g, cap, cur, rfl, hg, hgb, hcp, _⟩
  · obtain rfl : ps = [] := List.eq_nil_of_length_eq_zero (by omega)
    exact ⟨none, 0, rfl, ⟨by simp, by simp⟩, fun k p hk => by simp at hk⟩
  · refine ⟨some ⟨g, 0, none⟩, cap, by rw [List.length_map, hn], ⟨by rw [List.length_map]; omega, by rw [List.length_map]; omega⟩, fun k p hk => ?_⟩
    rw [List.getElem?_map, Option.map_eq_some_iff] at hk
    obtain ⟨q, hq, rfl⟩ := hk
    obtain ⟨c0, c1, c2⟩ := owns_pc h hq
    exact ⟨g, 0, rfl, (Array.getElem?_eq_some_iff.1 hgb).1, by simpa [Pc.n] using c0, by simpa [Pc.n] using c1, by simpa [Pc.n] using c2⟩

theorem take_eq_succ {α : Type} {a b : List α} {k : Nat} {p : α} (h : a.take k = b.take k) (hp : a[k]? = some p) (hq : b[k]? = some p) : a.take (k + 1) = b.take (k + 1) := by
  rw [List.take_add_one, List.take_add_one, h, hp, hq]

set_option maxHeartbeats 2000000 in
/-- **slices.Equal** of pieces -/
theorem equal_any (va vb : Value) (xs ys : List Pn) (w : World) (ha : PnRead w va xs) (hb : PnRead w vb ys) :
    Calls Tryz.prog 52 #[va, vb] w fun e W => e = .returned (.bool (decide (xs = ys))) ∧ Below w.heap.size w W := by
  obtain ⟨aa, ca, rfl, hma, hra⟩ := ha
  obtain ⟨ab, cb, rfl, hmb, hrb⟩ := hb
  have HA := Lib.hid hra
  have HB := Lib.hid hrb
  clear hra hrb
  unfold maxLen at hma hmb
  cases hl : ((xs.length : Int) == (ys.length : Int))
  · have hne : Hid (decide (xs = ys) = false) := Lib.hid (by simp at hl ⊢; exact fun h => hl (by rw [h]))
    go_enter Tryz.func52, Tryz.ntmps52
    go_wp2_with fail
    go_ret
    exact ⟨by rw [hne.out]; rfl, Below.refl _ _⟩
  · have hl' : xs.length = ys.length := by simp at hl; omega
    obtain ⟨n, hn⟩ : ∃ n, ys.length = n := ⟨_, rfl⟩
    rw [hn] at hl' hmb ⊢
    rw [hl'] at hma ⊢
    clear hl
    go_enter Tryz.func52, Tryz.ntmps52
    go_wp2_with fail
    go_loopw [13] (fun x wr => ∃ k : Nat, k ≤ n ∧ x = .int .i64 k ∧ Hid (xs.take k = ys.take k) ∧ Below w.heap.size w wr) (fun x _ => n - (intOf x).toNat)
    case atStart => exact ⟨0, by omega, rfl, Lib.hid rfl, Below.refl _ _⟩
    case round =>
      obtain ⟨k, hk, rfl, HT, hbw⟩ := hrel
      by_cases hlt : k < n
      · obtain ⟨p, hp⟩ : ∃ p, xs[k]? = some p := ⟨_, List.getElem?_eq_getElem (by omega)⟩
        obtain ⟨q, hq⟩ : ∃ q, ys[k]? = some q := ⟨_, List.getElem?_eq_getElem (by omega)⟩
        obtain ⟨ga, oa, rfl, hga, a0, a1, a2⟩ := HA.out k p hp
        obtain ⟨gb, ob, rfl, hgb, b0, b1, b2⟩ := HB.out k q hq
        have a0 := (hbw.cell (p := ⟨ga, _, none⟩) hga).trans a0
        have a1 := (hbw.cell (p := ⟨ga, _, none⟩) hga).trans a1
        have a2 := (hbw.cell (p := ⟨ga, _, none⟩) hga).trans a2
        have b0 := (hbw.cell (p := ⟨gb, _, none⟩) hgb).trans b0
        have b1 := (hbw.cell (p := ⟨gb, _, none⟩) hgb).trans b1
        have b2 := (hbw.cell (p := ⟨gb, _, none⟩) hgb).trans b2
        have hk0 : (0 : Int) ≤ (k : Int) := by omega
        have hk1 : (k : Int) < (n : Int) := by omega
        have HP := Lib.hid hp
        have HQ := Lib.hid hq
        clear hp hq
        cases hd : decide (p.kind = q.kind ∧ p.at_ = q.at_ ∧ p.len = q.len)
        · have hne : Hid (decide (xs = ys) = false) := Lib.hid (by
            simp only [decide_eq_false_iff_not] at hd ⊢
            intro h; apply hd; subst h
            have := HP.out.symm.trans HQ.out; cases this; exact ⟨rfl, rfl, rfl⟩)
          go_wp2_with fail
          go_quiet (fail)
          go_wp2_with fail
          go_ret
          exact ⟨by rw [hne.out]; rfl, below_drewN hbw _⟩
        · have hpq : p = q := by simp only [decide_eq_true_eq] at hd; cases p; cases q; simp_all
          have HT2 := Lib.hid (take_eq_succ HT.out HP.out (hpq ▸ HQ.out))
          go_wp2_with fail
          go_quiet (fail)
          go_wp2_with fail
          go_roundw
          case rel => exact ⟨k + 1, by omega, rfl, HT2, below_drewN hbw _⟩
          case measure => simp [intOf]; omega
      · have heq : Hid (decide (xs = ys) = true) := Lib.hid (by have := HT.out; rw [show k = n by omega, List.take_of_length_le (by omega), List.take_of_length_le (by omega)] at this; simpa using this)
        go_wp2_with fail
        go_ret
        exact ⟨by rw [heq.out]; rfl, hbw⟩
end Go.Proofs.YtdfkkeeohbgmbaaGreatDoor
