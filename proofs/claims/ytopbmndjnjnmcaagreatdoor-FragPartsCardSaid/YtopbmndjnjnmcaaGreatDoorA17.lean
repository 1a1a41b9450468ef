/- Package lex: Pieces of a text that is not too long. -/
import Derived.Test.YtopbmndjnjnmcaaGreatDoorA16
namespace Go.Proofs.YtopbmndjnjnmcaaGreatDoor
open Go.RowKit Lx

attribute [local go_sem] Oper.semAt_some

theorem info33 : (Tryz.prog.info? 127).map (fun i => (i.zero, i.size, i.bytes)) = some (some (.agg #[.int .i64 0, .int .i64 0, .int .i64 0]), 3, 24) := by kernel_rfl

/-- The cells of pieces. -/
def pcCells (p : Pc) : List Value := [.int .i64 (p.kind : Int), .int .i64 (p.at_ : Int), .int .i64 (p.len : Int)]
def pcsCells : List Pc → List Value
  | [] => []
  | p :: r => pcCells p ++ pcsCells r
theorem pcsCells_app (a b : List Pc) : pcsCells (a ++ b) = pcsCells a ++ pcsCells b := by
  induction a with
  | nil => rfl
  | cons p r ih => simp [pcsCells, ih]
theorem pcsCells_len (a : List Pc) : (pcsCells a).length = a.length * 3 := by
  induction a with
  | nil => rfl
  | cons p r ih => simp [pcsCells, pcCells, ih]; omega

theorem qCutAll_length (l : Bs) (n : Nat) : ∀ x : St, (qCutAll l n x).1.length ≤ l.length - x.i := by
  induction n with
  | zero => intro x; simp [qCutAll]
  | succ n ih =>
    intro x
    simp only [qCutAll]
    split
    · simp
    · split
      · simp
      · split
        · simp
        · rename_i a1 a2 a3
          have hl := qNext_len l x.i x.op (by omega) (by simpa using a2)
          have := ih (qAfter l x (qNext l x.i x.op).kind (qNext l x.i x.op).len)
          rw [qAfter_i] at this
          simp only [List.length_cons]; omega
theorem qFrom_length (l : Bs) (x : St) : (qFrom l x).1.length ≤ l.length := by
  have := qCutAll_length l (l.length - x.i + 1) x
  unfold qFrom; omega

/-- What Pieces holds between two rounds. -/
def PI (w : World) (s : ByteArray) (pre : List Pc) (x : St) (W : World) : Prop :=
  CutB W (w.heap.size + 3) s x.i x.t x.op ∧ Env W ∧ (∃ v, Boxed W w.heap.size 122 v ∧ W.ownsRow w.heap.size 127 3 v pre.length (pcsCells pre) ∧ (v = .slice none 0 0 ↔ pre = [])) ∧
  Boxed W (w.heap.size + 1) 3 (.int .i64 0) ∧ Boxed W (w.heap.size + 2) 24 (.int .i64 0) ∧ Below w.heap.size w W

theorem row_cells {W : World} {base e size k : Nat} {v : Value} {xs : List Value} (h : W.ownsRow base e size v k xs) {b : Nat} {o : Obj} (hb : W.heap[b]? = some o) (hne : ∀ cs fr, o ≠ .cells cs e fr) : v.ownBlock = none ∨ v.ownBlock ≠ some b := by
  rcases h.2 with ⟨rfl, _⟩ | ⟨g, cap, cur, rfl, _, hgb, _⟩
  · exact .inl rfl
  · refine .inr fun e' => ?_
    obtain rfl : g = b := by simpa [Value.ownBlock] using e'
    rw [hb] at hgb; cases hgb; exact hne _ _ rfl

theorem PI.take {w : World} {s : ByteArray} (h6 : 6 ≤ w.heap.size) {pre : List Pc} {x x' : St} {W W' : World} (h : PI w s pre x W) (hg : W.grownBy W' (some (w.heap.size + 3))) (hc : CutB W' (w.heap.size + 3) s x'.i x'.t x'.op) : PI w s pre x' W' := by
  obtain ⟨h1, h2, ⟨v, hv, hr, hn⟩, h4, h5, hb⟩ := h
  refine ⟨hc, h2.kept (by omega) hg, ⟨v, hv.kept hg (by simp), hr.kept hg (row_cells hr h1 (by simp)), hn⟩, h4.kept hg (by simp), h5.kept hg (by simp), hb.grown hg hb.size (fun k e => by cases e; omega)⟩

theorem PI.stable {w : World} {s : ByteArray} {B : Nat} (h6w : 6 ≤ w.heap.size) (hB : w.heap.size + 4 ≤ B) : StableI B (PI w s) := by
  rintro pre x _ W W' row ⟨h1, h2, ⟨v, hv, hr, hn⟩, h4, h5, hb⟩ hg hrow
  have hne : ∀ b, b < B → some b ≠ row := fun b hb e => by have := (hrow b e.symm).1; omega
  refine ⟨h1.kept hg (hne _ (by omega)), ?_, ⟨v, hv.kept hg (hne _ (by omega)), hr.kept hg ?_, hn⟩, h4.kept hg (hne _ (by omega)), h5.kept hg (hne _ (by omega)), hb.grown hg hb.size (fun k e => by have := (hrow k e).1; omega)⟩
  · cases row with
    | none => exact h2.below ⟨hg.os, hg.tape, hg.output, hg.size, fun k hk => hg.block k hk (by simp)⟩
    | some b =>
      by_cases h6 : 6 ≤ b
      · exact h2.kept h6 hg
      · have := (hrow b rfl).1; omega
  · cases row with
    | none =>
      rcases hr.2 with ⟨rfl, _⟩ | ⟨g, cap, cur, rfl, _⟩
      · exact .inl rfl
      · exact .inr (by simp [Value.ownBlock])
    | some b =>
      obtain ⟨_, o, ho, hcl⟩ := hrow b rfl
      exact row_cells hr ho (fun cs fr e => by subst e; cases hcl)

theorem Env.low {w w' : World} (h : Env w) (hb : Below 6 w w') : Env w' := by
  have hs := h.size
  obtain ⟨m, hm⟩ := h.max
  obtain ⟨t2, p2, h2⟩ := h.syn
  obtain ⟨t3, p3, h3⟩ := h.rng
  exact ⟨⟨m, (hb.cell (p := ⟨0, 0, none⟩) (by show 0 < _; omega)).trans hm⟩, ⟨t2, p2, (hb.cell (p := ⟨1, 0, none⟩) (by show 1 < _; omega)).trans h2⟩, ⟨t3, p3, (hb.cell (p := ⟨2, 0, none⟩) (by show 2 < _; omega)).trans h3⟩,
    var?_below hb pow10_global (by omega) h.tab, Nat.le_trans hs hb.size⟩

theorem cells_three_new (w : World) (a b c : Value) (t : TypeId) : ∀ j u, [a, b, c][j]? = some u → (w.alloc (.cells #[a, b, c] t)).cell? ((⟨w.heap.size, 0, none⟩ : Addr).add j) = some u := by
  intro j u h
  have hn := World.alloc_heap_new w (.cells #[a, b, c] t)
  match j, h with
  | 0, h => simp at h; subst h; exact (cells3 hn).1
  | 1, h => simp at h; subst h; exact (cells3 hn).2.1
  | 2, h => simp at h; subst h; exact (cells3 hn).2.2.1
  | n + 3, h => simp at h

/-- The append of Pieces keeps what Pieces holds. -/
theorem PI.more {w : World} {s : ByteArray} (h6 : 6 ≤ w.heap.size) {pre : List Pc} {x : St} {p : Pc} {W w1 : World} {v v' : Value} {tmp : Obj} {ys : List Value}
    (h1 : Hid (CutB W (w.heap.size + 3) s x.i x.t x.op)) (h2 : Hid (Env W)) (hv : Boxed W w.heap.size 122 v) (hr : W.ownsRow w.heap.size 127 3 v pre.length (pcsCells pre)) (h4 : Boxed W (w.heap.size + 1) 3 (.int .i64 0)) (h5 : Boxed W (w.heap.size + 2) 24 (.int .i64 0)) (hb : Below w.heap.size w W)
    (hown' : w1.ownsRow w.heap.size 127 3 v' (pre.length + 1) ys) (hys : ys = pcsCells pre ++ pcCells p) (hgrow : (W.alloc tmp).grownBy w1 v.ownBlock) :
    KeepsFrom (w.heap.size + 4) W (w1.setCell ⟨w.heap.size, 0, none⟩ v') ∧ PI w s (pre ++ [p]) x (w1.setCell ⟨w.heap.size, 0, none⟩ v') := by
  obtain ⟨hv1, hv2, hr2, hk2, hb2⟩ := hv.appended (by decide) hr hb.size (Nat.le_refl _) hown' hgrow
  obtain ⟨g', cap', hv'⟩ := ownsRow_succ hown'
  have hne : some (w.heap.size + 3) ≠ v.ownBlock := fun e => by
    rcases row_cells hr h1.out (by simp) with h | h
    · rw [h] at e; cases e
    · exact h e.symm
  refine ⟨hk2.from _, ((h1.out.alloc tmp).kept hgrow hne).kept (grown_set w1 w.heap.size 0 _) (by simp), h2.out.low (hb2.mono h6), ⟨v', hv2, ?_, by rw [hv']; simp⟩,
    ((h4.alloc tmp).kept hgrow (h4.not_row (by decide) hr)).other (by simp) _, ((h5.alloc tmp).kept hgrow (h5.not_row (by decide) hr)).other (by simp) _, hb.trans hb2⟩
  rw [pcsCells_app, List.length_append]
  subst hys
  simpa [pcsCells] using hr2

theorem ownsRow_slice {W : World} {base e size k : Nat} {v : Value} {xs : List Value} (h : W.ownsRow base e size v k xs) : ∃ a n c, v = .slice a n c := by
  rcases h.2 with ⟨rfl, _⟩ | ⟨g, cap, cur, rfl, _⟩ <;> exact ⟨_, _, _, rfl⟩

/-- How Pieces ends. -/
def PiecesEnd (l : Bs) (base : Nat) (e : Ending) (W : World) : Prop :=
  ∃ v, e = .returned (.tuple #[v, .int .i64 ((((qPieces l).2.map Prod.snd).getD 0 : Nat) : Int), .int .i64 ((((qPieces l).2.map Prod.fst).getD 0 : Nat) : Int)]) ∧
    ((qPieces l).2 = none → W.ownsRow base 127 3 v (qPieces l).1.length (pcsCells (qPieces l).1) ∧ (v = .slice none 0 0 ↔ (qPieces l).1 = [])) ∧
    ((qPieces l).2 ≠ none → v = .slice none 0 0)

theorem Boxed.bl {W W' : World} {B : Nat} {t : TypeId} {v : Value} (h : Boxed W B t v) (hb : Below W.heap.size W W') : Boxed W' B t v := h.kept (grown_bl hb none) (by simp)
theorem Boxed.put {W : World} {B : Nat} {t : TypeId} {v : Value} (h : Boxed W B t v) {D : Nat} (o : Obj) (hne : B ≠ D) : Boxed (W.putObj D o) B t v := h.kept (grownBy_putObj' W D o) (by simpa using hne)
theorem owns_bl {W W' : World} {base e size k : Nat} {v : Value} {xs : List Value} (h : W.ownsRow base e size v k xs) (hb : Below W.heap.size W W') : W'.ownsRow base e size v k xs := by
  refine h.kept (grown_bl hb none) ?_
  cases v.ownBlock with
  | none => exact .inl rfl
  | some g => exact .inr (by simp)
theorem owns_set {W : World} {base e size k : Nat} {v : Value} {xs : List Value} (h : W.ownsRow base e size v k xs) {B : Nat} {t : TypeId} {u : Value} (hB : Boxed W B t u) (hte : t ≠ e) (u' : Value) : (W.setCell ⟨B, 0, none⟩ u').ownsRow base e size v k xs :=
  h.kept (grownBy_setCell' W B u') (.inr (hB.not_row hte h).symm)

end Go.Proofs.YtopbmndjnjnmcaaGreatDoor
