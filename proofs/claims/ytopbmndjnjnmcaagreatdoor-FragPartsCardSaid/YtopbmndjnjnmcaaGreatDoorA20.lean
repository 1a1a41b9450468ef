/- Package lex: Scan. -/
import Derived.Test.YtopbmndjnjnmcaaGreatDoorA19
import Derived.Deep.RegionHeld3
import Derived.Deep.AppendLies
import Derived.Deep.DrawnRows
namespace Go.Proofs.YtopbmndjnjnmcaaGreatDoor
open Go.RowKit Lx

attribute [local go_sem] Oper.semAt_some
attribute [local go_sem ↓] Go.wp_at_zero Go.wp_at_succ

theorem info39 : (Tryz.prog.info? 50).map (fun i => (i.zero, i.size, i.bytes)) = some (some (.agg #[.int .i64 0, .int .i64 0, .string ⟨#[]⟩, .int .i64 0, .int .i64 0]), 5, 48) := by kernel_rfl

/-- The text of a piece. -/
def pcText (s : ByteArray) (p : Pc) : ByteArray := s.extract p.at_ (p.at_ + p.len)
def tkCells (s : ByteArray) (p : Pc) : List Value := [.int .i64 (p.kind : Int), .int .i64 (qValue p.kind ((s.data.toList.drop p.at_).take p.len)), .string (pcText s p), .int .i64 (p.at_ : Int), .int .i64 0]
def tksCells (s : ByteArray) : List Pc → List Value
  | [] => []
  | p :: r => tkCells s p ++ tksCells s r
theorem tksCells_app (s : ByteArray) (a b : List Pc) : tksCells s (a ++ b) = tksCells s a ++ tksCells s b := by
  induction a with
  | nil => rfl
  | cons p r ih => simp [tksCells, ih]
theorem tksCells_len (s : ByteArray) (a : List Pc) : (tksCells s a).length = a.length * 5 := by
  induction a with
  | nil => rfl
  | cons p r ih => simp [tksCells, tkCells, ih]; omega

def isTok (p : Pc) : Bool := decide (p.kind < 7)
/-- The pieces that Pieces returns. -/
def qGood (l : Bs) : List Pc := if (qPieces l).2 = none then (qPieces l).1 else []
/-- The pieces that are tokens. -/
def qScan (l : Bs) : List Pc := (qGood l).filter isTok
def qErr (l : Bs) : Nat := ((qPieces l).2.map Prod.fst).getD 0
def qErrAt (l : Bs) : Nat := ((qPieces l).2.map Prod.snd).getD 0

theorem qGood_follow (l : Bs) : Follow l.length 0 (qGood l) := by
  unfold qGood; split
  · exact (qPieces_follow l).1
  · trivial
theorem qGood_length (l : Bs) : (qGood l).length ≤ 20000 := by
  unfold qGood; split
  · exact qPieces_length l
  · simp
theorem qGood_small (l : Bs) (k : Nat) (p : Pc) (h : (qGood l)[k]? = some p) : l.length ≤ 20000 := by
  unfold qGood at h; split at h
  · rename_i h1; exact qPieces_small l h1
  · simp at h

theorem filter_take_succ (ps : List Pc) (k : Nat) (p : Pc) (h : ps[k]? = some p) : (ps.take (k + 1)).filter isTok = (ps.take k).filter isTok ++ (if isTok p = true then [p] else []) := by
  rw [List.take_add_one, h, List.filter_append]
  congr 1
  cases h' : isTok p <;> simp [h']

theorem Env.any {w w' : World} (h : Env w) {B : Nat} (hB : B = w.heap.size) (hb : Below B w w') : Env w' := by subst hB; exact h.below hb

/-- What Scan holds between two rounds. -/
def SI (s : ByteArray) (B : Nat) (w : World) (pv : Value) (ps : List Pc) (k : Nat) (v : Value) (W : World) : Prop :=
  W.ownsRow B 127 3 pv ps.length (pcsCells ps) ∧ W.ownsRow B 50 5 v ((ps.take k).filter isTok).length (tksCells s ((ps.take k).filter isTok)) ∧ (v = .slice none 0 0 ↔ (ps.take k).filter isTok = []) ∧ Env W ∧ Below B w W

theorem rows_apart {W : World} {b1 b2 e1 e2 s1 s2 n1 n2 : Nat} {v1 v2 : Value} {x1 x2 : List Value} (h1 : W.ownsRow b1 e1 s1 v1 n1 x1) (h2 : W.ownsRow b2 e2 s2 v2 n2 x2) (hne : e1 ≠ e2) : v1.ownBlock = none ∨ v1.ownBlock ≠ v2.ownBlock := by
  rcases h2.2 with ⟨rfl, _⟩ | ⟨g, cap, cur, rfl, _, hg, _⟩
  · cases v1.ownBlock with
    | none => exact .inl rfl
    | some g => exact .inr (by simp [Value.ownBlock])
  · rcases row_cells h1 hg (fun cs fr e => by cases e; exact hne rfl) with h | h
    · exact .inl h
    · exact .inr (by simpa [Value.ownBlock] using h)

theorem Below.heap_alloc_cell (w : World) (o : Obj) (a : Addr) (h : a.block < w.heap.size) : (w.alloc o).cell? a = w.cell? a := ((Below.refl w.heap.size w).alloc (Nat.le_refl _) o).cell h

theorem held_keep {N : Nat} {w9 w10 : World} {o : Obj} {row : Option Nat} {a : Addr} {v : Value} (hk : w9.cell? a = some v) (ha : a.block = N) (hs : N < w9.heap.size) (hg : (w9.alloc o).grownBy w10 row) (hne : ∀ j, row = some j → j < N) : w10.cell? a = some v :=
  (hg.cell_far a (by rw [World.size_alloc]; omega) (fun e => by have := hne _ e.symm; omega)).trans ((Below.heap_alloc_cell w9 _ _ (by omega)).trans hk)
theorem lt_drew_alloc (w : World) (o : Obj) : w.heap.size < (w.alloc o).drew.heap.size := by
  show w.heap.size < (w.alloc o).heap.size; rw [World.size_alloc]; omega
theorem size_drew_alloc {w w9 : World} {o : Obj} (h : Below (w.alloc o).drew.heap.size (w.alloc o).drew w9) : w.heap.size < w9.heap.size := by
  have := h.size
  have h2 : (w.alloc o).drew.heap.size = w.heap.size + 1 := by show (w.alloc o).heap.size = _; rw [World.size_alloc]
  omega

theorem from_drew_alloc {w w9 : World} {o : Obj} (h : Below (w.alloc o).drew.heap.size (w.alloc o).drew w9) : Below w.heap.size w w9 :=
  (((Below.refl w.heap.size w).alloc (Nat.le_refl _) o).drew).trans (h.mono (by show w.heap.size ≤ (w.alloc o).heap.size; rw [World.size_alloc]; omega))

theorem owns_bl' {W W' : World} {base e size k : Nat} {v : Value} {xs : List Value} (h : W.ownsRow base e size v k xs) (hb : Below W.heap.size W W') : W'.ownsRow base e size v k xs := by
  refine h.kept (grown_bl hb none) ?_
  cases v.ownBlock with
  | none => exact .inl rfl
  | some g => exact .inr (by simp)

theorem SI.skip {s : ByteArray} {B : Nat} {w : World} {pv : Value} {ps : List Pc} {k : Nat} {v : Value} {W W' : World} {p : Pc} (h : SI s B w pv ps k v W) (hB : B ≤ W.heap.size) (hp : ps[k]? = some p) (h7 : isTok p = false) (hb : Below W.heap.size W W') : SI s B w pv ps (k + 1) v W' := by
  obtain ⟨h1, h2, h3, h4, h5⟩ := h
  unfold SI
  rw [filter_take_succ ps k p hp, if_neg (by simp [h7]), List.append_nil]
  exact ⟨owns_bl' h1 hb, owns_bl' h2 hb, h3, h4.below hb, h5.trans (hb.mono hB)⟩

theorem SI.more {s : ByteArray} {B : Nat} {w : World} {pv : Value} {ps : List Pc} {k : Nat} {v : Value} {W W' W'' : World} {p : Pc} (h : SI s B w pv ps k v W) (h6 : 6 ≤ B) (hB : B ≤ W.heap.size) (hp : ps[k]? = some p) (h7 : isTok p = true) (hb : Below W.heap.size W W') {g cap : Nat}
    (hown : W''.ownsRow B 50 5 (.slice (some ⟨g, 0, none⟩) (((ps.take k).filter isTok).length + 1) cap) (((ps.take k).filter isTok).length + 1) (tksCells s ((ps.take k).filter isTok) ++ tkCells s p)) (hg : W'.grownBy W'' v.ownBlock) :
    SI s B w pv ps (k + 1) (.slice (some ⟨g, 0, none⟩) (((ps.take k).filter isTok).length + 1) cap) W'' := by
  obtain ⟨h1, h2, h3, h4, h5⟩ := h
  have hlt := h2.lt
  unfold SI
  rw [filter_take_succ ps k p hp, if_pos h7, List.length_append, tksCells_app]
  have hb2 : Below B W W'' := (hb.mono hB).grown hg (by have := hb.size; omega) (fun j e => (hlt j e).1)
  refine ⟨(owns_bl' h1 hb).kept hg (rows_apart (owns_bl' h1 hb) (owns_bl' h2 hb) (by decide)), by simpa [tksCells] using hown, by simp, h4.low (hb2.mono h6), h5.trans hb2⟩

end Go.Proofs.YtopbmndjnjnmcaaGreatDoor
