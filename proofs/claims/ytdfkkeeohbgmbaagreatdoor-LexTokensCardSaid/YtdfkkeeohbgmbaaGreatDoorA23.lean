/- Package lex: kept. -/
import Derived.Test.YtdfkkeeohbgmbaaGreatDoorA22
import Derived.Deep.DeepCutAuto
import Derived.Deep.CutBlock
namespace Go.Proofs.YtdfkkeeohbgmbaaGreatDoor
open Go.RowKit Lx

attribute [local go_sem] Oper.semAt_some
attribute [local go_sem ↓] pn_neq pn_guard pn_eql

/-- How many pieces are the same at the front. -/
def qFront : List Pn → List Pn → Nat
  | a :: r, b :: s => if a = b then qFront r s + 1 else 0
  | _, _ => 0
def Pn.up (p : Pn) (sh : Int) : Pn := ⟨p.kind, p.at_ + sh, p.len⟩
/-- How many are the same at the back, at most n, of lists that are turned around. -/
def qBack (sh : Int) : Nat → List Pn → List Pn → Nat
  | n + 1, a :: r, b :: s => if a.up sh = b then qBack sh n r s + 1 else 0
  | _, _, _ => 0
def qKept (xs ys : List Pn) (sh : Int) : Nat × Nat := (qFront xs ys, qBack sh (min xs.length ys.length - qFront xs ys) xs.reverse ys.reverse)

theorem front_on {xs ys : List Pn} {f : Nat} {p : Pn} (hp : xs[f]? = some p) (hq : ys[f]? = some p) : qFront (xs.drop f) (ys.drop f) = qFront (xs.drop (f + 1)) (ys.drop (f + 1)) + 1 := by
  obtain ⟨h1, h1'⟩ := List.getElem?_eq_some_iff.1 hp
  obtain ⟨h2, h2'⟩ := List.getElem?_eq_some_iff.1 hq
  rw [List.drop_eq_getElem_cons h1, List.drop_eq_getElem_cons h2, h1', h2', qFront, if_pos rfl]
theorem front_no {xs ys : List Pn} {f : Nat} {p q : Pn} (hp : xs[f]? = some p) (hq : ys[f]? = some q) (h : p ≠ q) : qFront (xs.drop f) (ys.drop f) = 0 := by
  obtain ⟨h1, h1'⟩ := List.getElem?_eq_some_iff.1 hp
  obtain ⟨h2, h2'⟩ := List.getElem?_eq_some_iff.1 hq
  rw [List.drop_eq_getElem_cons h1, List.drop_eq_getElem_cons h2, h1', h2', qFront, if_neg h]
theorem front_end {xs ys : List Pn} {f : Nat} (h : xs.length ≤ f ∨ ys.length ≤ f) : qFront (xs.drop f) (ys.drop f) = 0 := by
  rcases h with h | h
  · rw [List.drop_eq_nil_of_le h]; simp [qFront]
  · rw [List.drop_eq_nil_of_le h]; cases xs.drop f <;> simp [qFront]
theorem front_le (xs ys : List Pn) : qFront xs ys ≤ xs.length ∧ qFront xs ys ≤ ys.length := by
  induction xs generalizing ys with
  | nil => simp [qFront]
  | cons a r ih =>
    cases ys with
    | nil => simp [qFront]
    | cons b s =>
      rw [qFront]; split
      · have := ih s; simp only [List.length_cons]; omega
      · simp
theorem back_on {sh : Int} {xs ys : List Pn} {n b : Nat} {p q : Pn} (hp : xs[b]? = some p) (hq : ys[b]? = some q) (hb : b < n) (h : p.up sh = q) : qBack sh (n - b) (xs.drop b) (ys.drop b) = qBack sh (n - (b + 1)) (xs.drop (b + 1)) (ys.drop (b + 1)) + 1 := by
  obtain ⟨h1, h1'⟩ := List.getElem?_eq_some_iff.1 hp
  obtain ⟨h2, h2'⟩ := List.getElem?_eq_some_iff.1 hq
  rw [List.drop_eq_getElem_cons h1, List.drop_eq_getElem_cons h2, h1', h2', show n - b = (n - (b + 1)) + 1 by omega, qBack, if_pos h]
theorem back_no {sh : Int} {xs ys : List Pn} {n b : Nat} {p q : Pn} (hp : xs[b]? = some p) (hq : ys[b]? = some q) (hb : b < n) (h : p.up sh ≠ q) : qBack sh (n - b) (xs.drop b) (ys.drop b) = 0 := by
  obtain ⟨h1, h1'⟩ := List.getElem?_eq_some_iff.1 hp
  obtain ⟨h2, h2'⟩ := List.getElem?_eq_some_iff.1 hq
  rw [List.drop_eq_getElem_cons h1, List.drop_eq_getElem_cons h2, h1', h2', show n - b = (n - (b + 1)) + 1 by omega, qBack, if_neg h]
theorem back_end {sh : Int} {xs ys : List Pn} {n b : Nat} (hb : n ≤ b) : qBack sh (n - b) (xs.drop b) (ys.drop b) = 0 := by
  rw [show n - b = 0 by omega]; rfl

/-- A number in a cell. -/
def cellNat (b o : Nat) (w : World) : Nat := match w.cell? ⟨b, o, none⟩ with | some v => (intOf v).toNat | none => 0
theorem cellNat_eq {b o : Nat} {w : World} {n : Nat} (h : w.cell? ⟨b, o, none⟩ = some (.int .i64 n)) : cellNat b o w = n := by
  unfold cellNat; rw [h]; simp [intOf]

theorem cells2 {w : World} {r : Nat} {a b : Value} {t : TypeId} (h : w.heap[r]? = some (.cells #[a, b] t (0, 0))) :
    w.cell? ⟨r, 0, none⟩ = some a ∧ w.cell? ⟨r, 1, none⟩ = some b ∧ w.frozen? ⟨r, 0, none⟩ = false ∧ w.frozen? ⟨r, 1, none⟩ = false := by
  refine ⟨?_, ?_, ?_, ?_⟩ <;> simp [World.cell?, World.frozen?, h]

theorem heap_bl {W W' : World} {b : Nat} {o : Obj} (h : W.heap[b]? = some o) (hb : Below W.heap.size W W') : W'.heap[b]? = some o := (hb.block b (Array.getElem?_eq_some_iff.1 h).1).trans h

theorem set0 {W : World} {B n m : Nat} {t : TypeId} (h : W.heap[B]? = some (.cells #[.int .i64 n, .int .i64 m] t (0, 0))) : (W.setCell ⟨B, 0, none⟩ (.int .i64 ((n : Int) + 1))).heap[B]? = some (.cells #[.int .i64 (n + 1 : Nat), .int .i64 m] t (0, 0)) := heap_set W B 0 _ _ _ _ h
theorem set1 {W : World} {B n m : Nat} {t : TypeId} (h : W.heap[B]? = some (.cells #[.int .i64 n, .int .i64 m] t (0, 0))) : (W.setCell ⟨B, 1, none⟩ (.int .i64 ((m : Int) + 1))).heap[B]? = some (.cells #[.int .i64 n, .int .i64 (m + 1 : Nat)] t (0, 0)) := heap_set W B 1 _ _ _ _ h

theorem rev_get {α : Type} {xs : List α} {n b : Nat} (hn : xs.length = n) (hb : b < n) : xs.reverse[b]? = xs[n - 1 - b]? := by
  rw [List.getElem?_reverse (by omega), hn]

set_option maxRecDepth 100000 in
set_option maxHeartbeats 4000000 in
/-- **kept** -/
theorem kept_any (va vb : Value) (xs ys : List Pn) (sh : Int) (w : World) (ha : PnRead w va xs) (hb : PnRead w vb ys) (hx : xs.length ≤ 20000) (hy : ys.length ≤ 20000) (hp : ∀ (k : Nat) (p : Pn), xs[k]? = some p → 0 ≤ p.at_ ∧ p.at_ ≤ 20000) (hs : -20000 ≤ sh ∧ sh ≤ 20000) :
    Calls Tryz.prog 54 #[va, vb, .int .i64 sh] w fun e W => e = .returned (.agg #[.int .i64 (qKept xs ys sh).1, .int .i64 (qKept xs ys sh).2]) ∧ Below w.heap.size w W := by
  obtain ⟨aa, ca, rfl, hma, hra⟩ := ha
  obtain ⟨ab, cb, rfl, hmb, hrb⟩ := hb
  have HA := Lib.hid hra
  have HB := Lib.hid hrb
  have HP := Lib.hid hp
  clear hra hrb hma hmb hp
  obtain ⟨n, hn⟩ : ∃ n, xs.length = n := ⟨_, rfl⟩
  obtain ⟨m, hm⟩ : ∃ m, ys.length = m := ⟨_, rfl⟩
  rw [hn] at hx ⊢
  rw [hm] at hy ⊢
  have hmin : min (n : Int) (m : Int) = ((min n m : Nat) : Int) := by omega
  go_enter Tryz.func54, Tryz.ntmps54
  go_upto_block 0 with fail
  go_cut [] from 15 to 35 (fun wx => wx.heap[w.heap.size + 1]? = some (.cells #[.int .i64 (qFront xs ys : Nat), .int .i64 0] 55 (0, 0)) ∧ wx.heap[w.heap.size]? = some (.cells #[.int .i64 0, .int .i64 0] 55 (0, 0)) ∧ Below w.heap.size w wx)
  case first =>
    go_wp2_with fail
    go_loopw [] (fun wr => ∃ f : Nat, f ≤ min n m ∧ Hid (qFront xs ys = f + qFront (xs.drop f) (ys.drop f)) ∧ wr.heap[w.heap.size + 1]? = some (.cells #[.int .i64 f, .int .i64 0] 55 (0, 0)) ∧ wr.heap[w.heap.size]? = some (.cells #[.int .i64 0, .int .i64 0] 55 (0, 0)) ∧ Below w.heap.size w wr) (fun wr => min n m - cellNat (w.heap.size + 1) 0 wr)
    case atStart =>
      have h2 := World.alloc_heap_new (w.alloc (.cells #[.int .i64 0, .int .i64 0] 55)) (.cells #[.int .i64 0, .int .i64 0] 55)
      simp only [World.size_alloc] at h2
      exact ⟨0, by omega, Lib.hid (by simp), h2, (Below.heap_alloc _ _ _ (by simp)).trans (World.alloc_heap_new w _), ((Below.refl _ w).alloc (Nat.le_refl _) _).alloc (by simp) _⟩
    case round =>
      obtain ⟨f, hf, HF, hk, hr, hbw⟩ := hrel
      obtain ⟨k0, k1, f0, f1⟩ := cells2 hk
      have HK := Lib.hid hk
      have HR := Lib.hid hr
      clear hk hr
      by_cases hlt : f < min n m
      · obtain ⟨p, hp⟩ : ∃ p, xs[f]? = some p := ⟨_, List.getElem?_eq_getElem (by omega)⟩
        obtain ⟨q, hq⟩ : ∃ q, ys[f]? = some q := ⟨_, List.getElem?_eq_getElem (by omega)⟩
        obtain ⟨ga, oa, rfl, hga, a0, a1, a2⟩ := HA.out f p hp
        obtain ⟨gb, ob, rfl, hgb, b0, b1, b2⟩ := HB.out f q hq
        have a0 := (hbw.cell (p := ⟨ga, _, none⟩) hga).trans a0
        have a1 := (hbw.cell (p := ⟨ga, _, none⟩) hga).trans a1
        have a2 := (hbw.cell (p := ⟨ga, _, none⟩) hga).trans a2
        have b0 := (hbw.cell (p := ⟨gb, _, none⟩) hgb).trans b0
        have b1 := (hbw.cell (p := ⟨gb, _, none⟩) hgb).trans b1
        have b2 := (hbw.cell (p := ⟨gb, _, none⟩) hgb).trans b2
        have hk0 : (0 : Int) ≤ (f : Int) := by omega
        have hk1 : (f : Int) < (n : Int) := by omega
        have hk2 : (f : Int) < (m : Int) := by omega
        have HPp := Lib.hid hp
        have HQ := Lib.hid hq
        clear hp hq
        have hd1 : decide (f < min n m) = true := by simpa using hlt
        cases hd : decide (p.kind = q.kind ∧ p.at_ = q.at_ ∧ p.len = q.len)
        · have hpq : p ≠ q := fun h => by subst h; simp at hd
          have HF2 := Lib.hid (HF.out.trans (by rw [front_no HPp.out HQ.out hpq]; rfl) : qFront xs ys = f)
          go_wp2_with fail
          go_quiet (fail)
          go_wp2_with fail
          go_meet
          exact ⟨by rw [HF2.out]; exact HK.out, HR.out, below_drewN hbw _⟩
        · have hpq : p = q := by simp only [decide_eq_true_eq] at hd; cases p; cases q; simp_all
          have HF2 := Lib.hid (HF.out.trans (by rw [front_on HPp.out (hpq ▸ HQ.out)]; omega) : qFront xs ys = f + 1 + qFront (xs.drop (f + 1)) (ys.drop (f + 1)))
          go_wp2_with fail
          go_quiet (fail)
          go_wp2_with fail
          go_roundw
          case rel => exact ⟨f + 1, by omega, HF2, set0 (n := f) (m := 0) HK.out, (Below.heap_setCell _ _ _ _ (by simp)).trans HR.out, (below_drewN hbw _).setCell (p := ⟨w.heap.size + 1, 0, none⟩) (by simp) _⟩
          case measure =>
            rw [cellNat_eq (cells2 (set0 (W := wr.drewN _) (n := f) (m := 0) HK.out)).1, cellNat_eq k0]; omega
      · have HF2 := Lib.hid (HF.out.trans (by rw [front_end (by omega)]; rfl) : qFront xs ys = f)
        have hd1 : decide (f < min n m) = false := by simpa using hlt
        go_wp2_with fail
        go_quiet (fail)
        go_wp2_with fail
        go_meet
        exact ⟨by rw [HF2.out]; exact HK.out, HR.out, below_drewN hbw _⟩
  case rest =>
    obtain ⟨hk, hr, hb⟩ := hcut
    have hFl := front_le xs ys
    obtain ⟨F, hF⟩ : ∃ F, qFront xs ys = F := ⟨_, rfl⟩
    have HKq : Hid (qKept xs ys sh = (F, qBack sh (min n m - F) xs.reverse ys.reverse)) := Lib.hid (by unfold qKept; rw [hF, hn, hm])
    rw [hF, hn, hm] at hFl
    rw [hF] at hk
    clear hF
    obtain ⟨hs0, hs1⟩ := hs
    go_upto_block 2 with fail
    go_cut [9] from 36 to 71 (fun s9 wx => wx.heap[w.heap.size + 1]? = some (.cells #[.int .i64 F, .int .i64 (qBack sh (min n m - F) xs.reverse ys.reverse : Nat)] 55 (0, 0)) ∧ wx.heap[w.heap.size]? = some (.cells #[.int .i64 0, .int .i64 0] 55 (0, 0)) ∧ Below w.heap.size w wx)
    case first =>
      go_wp2_with fail
      go_loopw [] (fun wr => ∃ b : Nat, b ≤ min n m - F ∧ Hid (qBack sh (min n m - F) xs.reverse ys.reverse = b + qBack sh (min n m - F - b) (xs.reverse.drop b) (ys.reverse.drop b)) ∧ wr.heap[w.heap.size + 1]? = some (.cells #[.int .i64 F, .int .i64 b] 55 (0, 0)) ∧ wr.heap[w.heap.size]? = some (.cells #[.int .i64 0, .int .i64 0] 55 (0, 0)) ∧ Below w.heap.size w wr) (fun wr => min n m - cellNat (w.heap.size + 1) 1 wr)
      case atStart => exact ⟨0, by omega, Lib.hid (by simp), hk, hr, hb⟩
      case round =>
        clear hk hr hb
        obtain ⟨b, hbl, HB2, hk, hr, hbw⟩ := hrel
        obtain ⟨k0, k1, f0, f1⟩ := cells2 hk
        obtain ⟨r0, r1, rf0, rf1⟩ := cells2 hr
        have hlt1 : w.heap.size + 1 < wr.heap.size := (Array.getElem?_eq_some_iff.1 hk).1
        have HK := Lib.hid hk
        have HR := Lib.hid hr
        clear hk hr
        by_cases hlt : F + b < min n m
        · obtain ⟨p, hp⟩ : ∃ p, xs[n - 1 - b]? = some p := ⟨_, List.getElem?_eq_getElem (by omega)⟩
          obtain ⟨q, hq⟩ : ∃ q, ys[m - 1 - b]? = some q := ⟨_, List.getElem?_eq_getElem (by omega)⟩
          have hpr : Hid (xs.reverse[b]? = some p) := Lib.hid ((rev_get hn (by omega)).trans hp)
          have hqr : Hid (ys.reverse[b]? = some q) := Lib.hid ((rev_get hm (by omega)).trans hq)
          obtain ⟨hp0, hp1⟩ := HP.out _ p hp
          obtain ⟨ga, oa, rfl, hga, a0, a1, a2⟩ := HA.out _ p hp
          obtain ⟨gb, ob, rfl, hgb, b0, b1, b2⟩ := HB.out _ q hq
          have a0 := (hbw.cell (p := ⟨ga, _, none⟩) hga).trans a0
          have a1 := (hbw.cell (p := ⟨ga, _, none⟩) hga).trans a1
          have a2 := (hbw.cell (p := ⟨ga, _, none⟩) hga).trans a2
          have b0 := (hbw.cell (p := ⟨gb, _, none⟩) hgb).trans b0
          have b1 := (hbw.cell (p := ⟨gb, _, none⟩) hgb).trans b1
          have b2 := (hbw.cell (p := ⟨gb, _, none⟩) hgb).trans b2
          have hgb' : gb < wr.heap.size := Nat.lt_of_lt_of_le hgb hbw.size
          have hw1 : IntKind.i64.wrap ((m : Int) - 1) = (m : Int) - 1 := by rw [IntKind.wrap_i64]; omega
          have hw2 : IntKind.i64.wrap ((m : Int) - 1 - (b : Int)) = (m : Int) - 1 - (b : Int) := by rw [IntKind.wrap_i64]; omega
          have hj0 : (0 : Int) ≤ (n : Int) - 1 - (b : Int) := by omega
          have hj1 : (n : Int) - 1 - (b : Int) < (n : Int) := by omega
          have hjm0 : (0 : Int) ≤ (m : Int) - 1 - (b : Int) := by omega
          have hjm1 : (m : Int) - 1 - (b : Int) < (m : Int) := by omega
          have hd1 : decide ((F : Int) + (b : Int) < ((min n m : Nat) : Int)) = true := by simp; omega
          have hd2 : decide (F + b < min n m) = true := by simpa using hlt
          clear hp hq hga hgb
          cases hd : decide (p.kind = q.kind ∧ p.at_ + sh = q.at_ ∧ p.len = q.len)
          · have hpq : p.up sh ≠ q := fun h => by subst h; simp [Pn.up] at hd
            have HB3 := Lib.hid (HB2.out.trans (by rw [back_no hpr.out hqr.out (by omega) hpq]; rfl) : qBack sh (min n m - F) xs.reverse ys.reverse = b)
            go_wp2_with fail
            go_quiet (fail)
            go_wp2_with fail
            go_meet
            exact ⟨by rw [HB3.out]; exact (Below.heap_alloc _ _ _ hlt1).trans HK.out, (Below.heap_alloc _ _ _ (by omega)).trans HR.out, below_drewN (hbw.alloc hbw.size _) _⟩
          · have hpq : p.up sh = q := by simp only [decide_eq_true_eq] at hd; cases p; cases q; simp_all [Pn.up]
            have HB3 := Lib.hid (HB2.out.trans (by rw [back_on hpr.out hqr.out (by omega) hpq]; omega) : qBack sh (min n m - F) xs.reverse ys.reverse = b + 1 + qBack sh (min n m - F - (b + 1)) (xs.reverse.drop (b + 1)) (ys.reverse.drop (b + 1)))
            go_wp2_with fail
            go_quiet (fail)
            go_wp2_with fail
            go_roundw
            case rel => exact ⟨b + 1, by omega, HB3, set1 ((Below.heap_alloc _ _ _ hlt1).trans HK.out), (Below.heap_setCell _ _ _ _ (by simp)).trans ((Below.heap_alloc _ _ _ (by omega)).trans HR.out), (below_drewN (hbw.alloc hbw.size _) _).setCell (p := ⟨w.heap.size + 1, 1, none⟩) (by simp) _⟩
            case measure => rw [cellNat_eq (cells2 (set1 (W := (wr.alloc _).drewN _) ((Below.heap_alloc _ _ _ hlt1).trans HK.out))).2.1, cellNat_eq k1]; omega
        · have HB3 := Lib.hid (HB2.out.trans (by rw [back_end (by omega)]; rfl) : qBack sh (min n m - F) xs.reverse ys.reverse = b)
          have hd2 : decide (F + b < min n m) = false := by simpa using hlt
          go_wp2_with fail
          go_meet
          exact ⟨by rw [HB3.out]; exact HK.out, HR.out, hbw⟩
    case rest =>
      clear hk hr hb
      obtain ⟨hk, hr, hbw⟩ := hcut
      obtain ⟨k0, k1, f0, f1⟩ := cells2 hk
      obtain ⟨r0, r1, rf0, rf1⟩ := cells2 hr
      go_wp2_with fail
      refine bodyPost_ret (v := .agg #[.int .i64 F, .int .i64 (qBack sh (min n m - F) xs.reverse ys.reverse : Nat)]) (by simp [results, Tryz.results54, go_sem, r0, r1]) rfl ⟨by rw [HKq.out], (hbw.setCell (p := ⟨w.heap.size, 0, none⟩) (Nat.le_refl _) _).setCell (p := ⟨w.heap.size, 1, none⟩) (Nat.le_refl _) _⟩
end Go.Proofs.YtdfkkeeohbgmbaaGreatDoor
