/- Package lex: kept. -/
import Derived.Test.YtopbmndjnjnmcaaGreatDoorA22
import Derived.Deep.DeepCutAuto
import Derived.Deep.CutBlock
namespace Go.Proofs.YtopbmndjnjnmcaaGreatDoor
open Go.RowKit Lx

attribute [local go_sem] Oper.semAt_some
attribute [local go_sem ↓] pn_neq pn_guard pn_eql

/-- How many pieces are the same at the front. -/
def qFront : List Pn → List Pn → Nat
  | a :: r, b :: s => if a = b then qFront r s + 1 else 0
  | _, _ => 0
def Pn.up (p : Pn) (sh : Int) : Pn := ⟨p.kind, p.at_ + sh, p.len⟩
/-- How many are the same at the back, at most n, of lists that are turned around. -/
def qBack (sh : Int) : Nat → List Pn → List Pn → Nat
  | n + 1, a :: r, b :: s => if a.up sh = b then qBack sh n r s + 1 else 0
  | _, _, _ => 0
def qKept (xs ys : List Pn) (sh : Int) : Nat × Nat := (qFront xs ys, qBack sh (min xs.length ys.length - qFront xs ys) xs.reverse ys.reverse)

theorem front_on {xs ys : List Pn} {f : Nat} {p : Pn} (hp : xs[f]? = some p) (hq : ys[f]? = some p) : qFront (xs.drop f) (ys.drop f) = qFront (xs.drop (f + 1)) (ys.drop (f + 1)) + 1 := by
  obtain ⟨h1, h1'⟩ := List.getElem?_eq_some_iff.1 hp
  obtain ⟨h2, h2'⟩ := List.getElem?_eq_some_iff.1 hq
  rw [List.drop_eq_getElem_cons h1, List.drop_eq_getElem_cons h2, h1', h2', qFront, if_pos rfl]
theorem front_no {xs ys : List Pn} {f : Nat} {p q : Pn} (hp : xs[f]? = some p) (hq : ys[f]? = some q) (h : p ≠ q) : qFront (xs.drop f) (ys.drop f) = 0 := by
  obtain ⟨h1, h1'⟩ := List.getElem?_eq_some_iff.1 hp
  obtain ⟨h2, h2'⟩ := List.getElem?_eq_some_iff.1 hq
  rw [List.drop_eq_getElem_cons h1, List.drop_eq_getElem_cons h2, h1', h2', qFront, if_neg h]
theorem front_end {xs ys : List Pn} {f : Nat} (h : xs.length ≤ f ∨ ys.length ≤ f) : qFront (xs.drop f) (ys.drop f) = 0 := by
  rcases h with h | h
  · rw [List.drop_eq_nil_of_le h]; simp [qFront]
  · rw [List.drop_eq_nil_of_le h]; cases xs.drop f <;> simp [qFront]
theorem front_le (xs ys : List Pn) : qFront xs ys ≤ xs.length ∧ qFront xs ys ≤ ys.length := by
  induction xs generalizing ys with
  | nil => simp [qFront]
  | cons a r ih =>
    cases ys with
    | nil => simp [qFront]
    | cons b s =>
      rw [qFront]; split
      · have := ih s; simp only [List.length_cons]; omega
      · simp
theorem back_on {sh : Int} {xs ys : List Pn} {n b : Nat} {p q : Pn} (hp : xs[b]? = some p) (hq : ys[b]? = some q) (hb : b < n) (h : p.up sh = q) : qBack sh (n - b) (xs.drop b) (ys.drop b) = qBack sh (n - (b + 1)) (xs.drop (b + 1)) (ys.drop (b + 1)) + 1 := by
  obtain ⟨h1, h1'⟩ := List.getElem?_eq_some_iff.1 hp
  obtain ⟨h2, h2'⟩ := List.getElem?_eq_some_iff.1 hq
  rw [List.drop_eq_getElem_cons h1, List.drop_eq_getElem_cons h2, h1', h2', show n - b = (n - (b + 1)) + 1 by omega, qBack, if_pos h]
theorem back_no {sh : Int} {xs ys : List Pn} {n b : Nat} {p q : Pn} (hp : xs[b]? = some p) (hq : ys[b]? = some q) (hb : b < n) (h : p.up sh ≠ q) : qBack sh (n - b) (xs.drop b) (ys.drop b) = 0 := by
  obtain ⟨h1, h1'⟩ := List.getElem?_eq_some_iff.1 hp
  obtain ⟨h2, h2'⟩ := List.getElem?_eq_some_iff.1 hq
  rw [List.drop_eq_getElem_cons h1, List.drop_eq_getElem_cons h2, h1', h2', show n - b = (n - (b + 1)) + 1 by omega, qBack, if_neg h]
theorem back_end {sh : Int} {xs ys : List Pn} {n b : Nat} (hb : n ≤ b) : qBack sh (n - b) (xs.drop b) (ys.drop b) = 0 := by
  rw [show n - b = 0 by omega]; rfl

/-- A number in a cell. -/
def cellNat (b o : Nat) (w : World) : Nat := match w.cell? ⟨b, o, none⟩ with | some v => (intOf v).toNat | none => 0
theorem cellNat_eq {b o : Nat} {w : World} {n : Nat} (h : w.cell? ⟨b, o, none⟩ = some (.int .i64 n)) : cellNat b o w = n := by
  unfold cellNat; rw [h]; simp [intOf]

theorem cells2 {w : World} {r : Nat} {a b : Value} {t : TypeId} (h : w.heap[r]? = some (.cells #[a, b] t (0, 0))) :
    w.cell? ⟨r, 0, none⟩ = some a ∧ w.cell? ⟨r, 1, none⟩ = some b ∧ w.frozen? ⟨r, 0, none⟩ = false ∧ w.frozen? ⟨r, 1, none⟩ = false := by
  refine ⟨?_, ?_, ?_, ?_⟩ <;> simp [World.cell?, World.frozen?, h]

theorem heap_bl {W W' : World} {b : Nat} {o : Obj} (h : W.heap[b]? = some o) (hb : Below W.heap.size W W') : W'.heap[b]? = some o := (hb.block b (Array.getElem?_eq_some_iff.1 h).1).trans h

theorem set0 {W : World} {B n m : Nat} {t : TypeId} (h : W.heap[B]? = some (.cells #[.int .i64 n, .int .i64 m] t (0, 0))) : (W.setCell ⟨B, 0, none⟩ (.int .i64 ((n : Int) + 1))).heap[B]? = some (.cells #[.int .i64 (n + 1 : Nat), .int .i64 m] t (0, 0)) := heap_set W B 0 _ _ _ _ h
theorem set1 {W : World} {B n m : Nat} {t : TypeId} (h : W.heap[B]? = some (.cells #[.int .i64 n, .int .i64 m] t (0, 0))) : (W.setCell ⟨B, 1, none⟩ (.int .i64 ((m : Int) + 1))).heap[B]? = some (.cells #[.int .i64 n, .int .i64 (m + 1 : Nat)] t (0, 0)) := heap_set W B 1 _ _ _ _ h

theorem rev_get {α : Type} {xs : List α} {n b : Nat} (hn : xs.length = n) (hb : b < n) : xs.reverse[b]? = xs[n - 1 - b]? := by
  rw [List.getElem?_reverse (by omega), hn]

end Go.Proofs.YtopbmndjnjnmcaaGreatDoor
