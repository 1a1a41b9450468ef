/- Package lex: Pieces of a text that is not too long. -/
import Derived.Test.YtdfkkeeohbgmbaaGreatDoorA16
namespace Go.Proofs.YtdfkkeeohbgmbaaGreatDoor
open Go.RowKit Lx

attribute [local go_sem] Oper.semAt_some

theorem info33 : (Tryz.prog.info? 59).map (fun i => (i.zero, i.size, i.bytes)) = some (some (.agg #[.int .i64 0, .int .i64 0, .int .i64 0]), 3, 24) := by kernel_rfl

/-- The cells of pieces. -/
def pcCells (p : Pc) : List Value := [.int .i64 (p.kind : Int), .int .i64 (p.at_ : Int), .int .i64 (p.len : Int)]
def pcsCells : List Pc → List Value
  | [] => []
  | p :: r => pcCells p ++ pcsCells r
theorem pcsCells_app (a b : List Pc) : pcsCells (a ++ b) = pcsCells a ++ pcsCells b := by
  induction a with
  | nil => rfl
  | cons p r ih => simp [pcsCells, ih]
theorem pcsCells_len (a : List Pc) : (pcsCells a).length = a.length * 3 := by
  induction a with
  | nil => rfl
  | cons p r ih => simp [pcsCells, pcCells, ih]; omega

theorem qCutAll_length (l : Bs) (n : Nat) : ∀ x : St, (qCutAll l n x).1.length ≤ l.length - x.i := by
  induction n with
  | zero => intro x; simp [qCutAll]
  | succ n ih =>
    intro x
    simp only [qCutAll]
    split
    · simp
    · split
      · simp
      · split
        · simp
        · rename_i a1 a2 a3
          have hl := qNext_len l x.i x.op (by omega) (by simpa using a2)
          have := ih (qAfter l x (qNext l x.i x.op).kind (qNext l x.i x.op).len)
          rw [qAfter_i] at this
          simp only [List.length_cons]; omega
theorem qFrom_length (l : Bs) (x : St) : (qFrom l x).1.length ≤ l.length := by
  have := qCutAll_length l (l.length - x.i + 1) x
  unfold qFrom; omega

/-- What Pieces holds between two rounds. -/
def PI (w : World) (s : ByteArray) (pre : List Pc) (x : St) (W : World) : Prop :=
  CutB W (w.heap.size + 3) s x.i x.t x.op ∧ Env W ∧ (∃ v, Boxed W w.heap.size 23 v ∧ W.ownsRow w.heap.size 59 3 v pre.length (pcsCells pre) ∧ (v = .slice none 0 0 ↔ pre = [])) ∧
  Boxed W (w.heap.size + 1) 3 (.int .i64 0) ∧ Boxed W (w.heap.size + 2) 24 (.int .i64 0) ∧ Below w.heap.size w W

theorem row_cells {W : World} {base e size k : Nat} {v : Value} {xs : List Value} (h : W.ownsRow base e size v k xs) {b : Nat} {o : Obj} (hb : W.heap[b]? = some o) (hne : ∀ cs fr, o ≠ .cells cs e fr) : v.ownBlock = none ∨ v.ownBlock ≠ some b := by
  rcases h.2 with ⟨rfl, _⟩ | ⟨g, cap, cur, rfl, _, hgb, _⟩
  · exact .inl rfl
  · refine .inr fun e' => ?_
    obtain rfl : g = b := by simpa [Value.ownBlock] using e'
    rw [hb] at hgb; cases hgb; exact hne _ _ rfl

theorem PI.take {w : World} {s : ByteArray} (h6 : 6 ≤ w.heap.size) {pre : List Pc} {x x' : St} {W W' : World} (h : PI w s pre x W) (hg : W.grownBy W' (some (w.heap.size + 3))) (hc : CutB W' (w.heap.size + 3) s x'.i x'.t x'.op) : PI w s pre x' W' := by
  obtain ⟨h1, h2, ⟨v, hv, hr, hn⟩, h4, h5, hb⟩ := h
  refine ⟨hc, h2.kept (by omega) hg, ⟨v, hv.kept hg (by simp), hr.kept hg (row_cells hr h1 (by simp)), hn⟩, h4.kept hg (by simp), h5.kept hg (by simp), hb.grown hg hb.size (fun k e => by cases e; omega)⟩

theorem PI.stable {w : World} {s : ByteArray} {B : Nat} (h6w : 6 ≤ w.heap.size) (hB : w.heap.size + 4 ≤ B) : StableI B (PI w s) := by
  rintro pre x _ W W' row ⟨h1, h2, ⟨v, hv, hr, hn⟩, h4, h5, hb⟩ hg hrow
  have hne : ∀ b, b < B → some b ≠ row := fun b hb e => by have := (hrow b e.symm).1; omega
  refine ⟨h1.kept hg (hne _ (by omega)), ?_, ⟨v, hv.kept hg (hne _ (by omega)), hr.kept hg ?_, hn⟩, h4.kept hg (hne _ (by omega)), h5.kept hg (hne _ (by omega)), hb.grown hg hb.size (fun k e => by have := (hrow k e).1; omega)⟩
  · cases row with
    | none => exact h2.below ⟨hg.os, hg.tape, hg.output, hg.size, fun k hk => hg.block k hk (by simp)⟩
    | some b =>
      by_cases h6 : 6 ≤ b
      · exact h2.kept h6 hg
      · have := (hrow b rfl).1; omega
  · cases row with
    | none =>
      rcases hr.2 with ⟨rfl, _⟩ | ⟨g, cap, cur, rfl, _⟩
      · exact .inl rfl
      · exact .inr (by simp [Value.ownBlock])
    | some b =>
      obtain ⟨_, o, ho, hcl⟩ := hrow b rfl
      exact row_cells hr ho (fun cs fr e => by subst e; cases hcl)

theorem Env.low {w w' : World} (h : Env w) (hb : Below 6 w w') : Env w' := by
  have hs := h.size
  obtain ⟨m, hm⟩ := h.max
  obtain ⟨t2, p2, h2⟩ := h.syn
  obtain ⟨t3, p3, h3⟩ := h.rng
  exact ⟨⟨m, (hb.cell (p := ⟨0, 0, none⟩) (by show 0 < _; omega)).trans hm⟩, ⟨t2, p2, (hb.cell (p := ⟨1, 0, none⟩) (by show 1 < _; omega)).trans h2⟩, ⟨t3, p3, (hb.cell (p := ⟨2, 0, none⟩) (by show 2 < _; omega)).trans h3⟩,
    var?_below hb pow10_global (by omega) h.tab, Nat.le_trans hs hb.size⟩

theorem cells_three_new (w : World) (a b c : Value) (t : TypeId) : ∀ j u, [a, b, c][j]? = some u → (w.alloc (.cells #[a, b, c] t)).cell? ((⟨w.heap.size, 0, none⟩ : Addr).add j) = some u := by
  intro j u h
  have hn := World.alloc_heap_new w (.cells #[a, b, c] t)
  match j, h with
  | 0, h => simp at h; subst h; exact (cells3 hn).1
  | 1, h => simp at h; subst h; exact (cells3 hn).2.1
  | 2, h => simp at h; subst h; exact (cells3 hn).2.2.1
  | n + 3, h => simp at h

/-- The append of Pieces keeps what Pieces holds. -/
theorem PI.more {w : World} {s : ByteArray} (h6 : 6 ≤ w.heap.size) {pre : List Pc} {x : St} {p : Pc} {W w1 : World} {v v' : Value} {tmp : Obj} {ys : List Value}
    (h1 : Hid (CutB W (w.heap.size + 3) s x.i x.t x.op)) (h2 : Hid (Env W)) (hv : Boxed W w.heap.size 23 v) (hr : W.ownsRow w.heap.size 59 3 v pre.length (pcsCells pre)) (h4 : Boxed W (w.heap.size + 1) 3 (.int .i64 0)) (h5 : Boxed W (w.heap.size + 2) 24 (.int .i64 0)) (hb : Below w.heap.size w W)
    (hown' : w1.ownsRow w.heap.size 59 3 v' (pre.length + 1) ys) (hys : ys = pcsCells pre ++ pcCells p) (hgrow : (W.alloc tmp).grownBy w1 v.ownBlock) :
    KeepsFrom (w.heap.size + 4) W (w1.setCell ⟨w.heap.size, 0, none⟩ v') ∧ PI w s (pre ++ [p]) x (w1.setCell ⟨w.heap.size, 0, none⟩ v') := by
  obtain ⟨hv1, hv2, hr2, hk2, hb2⟩ := hv.appended (by decide) hr hb.size (Nat.le_refl _) hown' hgrow
  obtain ⟨g', cap', hv'⟩ := ownsRow_succ hown'
  have hne : some (w.heap.size + 3) ≠ v.ownBlock := fun e => by
    rcases row_cells hr h1.out (by simp) with h | h
    · rw [h] at e; cases e
    · exact h e.symm
  refine ⟨hk2.from _, ((h1.out.alloc tmp).kept hgrow hne).kept (grown_set w1 w.heap.size 0 _) (by simp), h2.out.low (hb2.mono h6), ⟨v', hv2, ?_, by rw [hv']; simp⟩,
    ((h4.alloc tmp).kept hgrow (h4.not_row (by decide) hr)).other (by simp) _, ((h5.alloc tmp).kept hgrow (h5.not_row (by decide) hr)).other (by simp) _, hb.trans hb2⟩
  rw [pcsCells_app, List.length_append]
  subst hys
  simpa [pcsCells] using hr2

theorem ownsRow_slice {W : World} {base e size k : Nat} {v : Value} {xs : List Value} (h : W.ownsRow base e size v k xs) : ∃ a n c, v = .slice a n c := by
  rcases h.2 with ⟨rfl, _⟩ | ⟨g, cap, cur, rfl, _⟩ <;> exact ⟨_, _, _, rfl⟩

/-- How Pieces ends. -/
def PiecesEnd (l : Bs) (base : Nat) (e : Ending) (W : World) : Prop :=
  ∃ v, e = .returned (.tuple #[v, .int .i64 ((((qPieces l).2.map Prod.snd).getD 0 : Nat) : Int), .int .i64 ((((qPieces l).2.map Prod.fst).getD 0 : Nat) : Int)]) ∧
    ((qPieces l).2 = none → W.ownsRow base 59 3 v (qPieces l).1.length (pcsCells (qPieces l).1) ∧ (v = .slice none 0 0 ↔ (qPieces l).1 = [])) ∧
    ((qPieces l).2 ≠ none → v = .slice none 0 0)

theorem Boxed.bl {W W' : World} {B : Nat} {t : TypeId} {v : Value} (h : Boxed W B t v) (hb : Below W.heap.size W W') : Boxed W' B t v := h.kept (grown_bl hb none) (by simp)
theorem Boxed.put {W : World} {B : Nat} {t : TypeId} {v : Value} (h : Boxed W B t v) {D : Nat} (o : Obj) (hne : B ≠ D) : Boxed (W.putObj D o) B t v := h.kept (grownBy_putObj' W D o) (by simpa using hne)
theorem owns_bl {W W' : World} {base e size k : Nat} {v : Value} {xs : List Value} (h : W.ownsRow base e size v k xs) (hb : Below W.heap.size W W') : W'.ownsRow base e size v k xs := by
  refine h.kept (grown_bl hb none) ?_
  cases v.ownBlock with
  | none => exact .inl rfl
  | some g => exact .inr (by simp)
theorem owns_set {W : World} {base e size k : Nat} {v : Value} {xs : List Value} (h : W.ownsRow base e size v k xs) {B : Nat} {t : TypeId} {u : Value} (hB : Boxed W B t u) (hte : t ≠ e) (u' : Value) : (W.setCell ⟨B, 0, none⟩ u').ownsRow base e size v k xs :=
  h.kept (grownBy_setCell' W B u') (.inr (hB.not_row hte h).symm)

theorem res15 (B : Nat) (T : Array Value) (W : World) (a : Option Addr) (n c : Nat) (i e : Int) (t2 : T.getD 2 undef = .pointer (some ⟨B, 0, none⟩)) (t3 : T.getD 3 undef = .pointer (some ⟨B + 1, 0, none⟩)) (t4 : T.getD 4 undef = .pointer (some ⟨B + 1 + 1, 0, none⟩))
    (h1 : Boxed W B 23 (.slice a n c)) (h2 : Boxed W (B + 1) 3 (.int .i64 i)) (h3 : Boxed W (B + 1 + 1) 24 (.int .i64 e)) :
    (results Tryz.f8 T).run Tryz.prog W = .ok (.tuple #[.slice a n c, .int .i64 i, .int .i64 e]) W := by
  have c1 := h1.cell
  have c2 := h2.cell
  have c3 := h3.cell
  rw [Array.getD_eq_getD_getElem?] at t2 t3 t4
  simp [results, Tryz.results8, go_sem, t2, t3, t4, c1, c2, c3]

set_option maxRecDepth 100000 in
set_option maxHeartbeats 4000000 in
theorem pieces_in (s : ByteArray) (hs : s.size ≤ 20000) (w : World) (he : Env w) :
    CallsIn Fence.wide 2 Tryz.prog 8 #[.string s] w fun e W' => PiecesEnd s.data.toList w.heap.size e W' ∧ Below w.heap.size w W' := by
  have h6 := he.size
  obtain ⟨i0, hi0, hz0, hz1, hz2⟩ := info_parts info33
  have hqp : qPieces s.data.toList = qFrom s.data.toList ⟨0, 0, false⟩ := if_neg (by simp; omega)
  have HQP := Lib.hid hqp
  clear hqp
  refine callsIn_of_wp_marks Tryz.func8 rfl trivial ?_ rfl
  simp only [Tryz.ntmps8, List.size_toArray, List.length_cons, List.length_nil, Nat.reduceAdd, Nat.reduceSub, Array.replicate_succ, Array.replicate_zero, List.push_toArray, List.append_toArray, List.nil_append, List.cons_append]
  have hmf : ∀ (fn : Fn) (first cap : Array Value) (w : World), (Instr.makeFunc fn first cap).run Tryz.prog w = .ok (.func fn first cap) w := fun _ _ _ _ => rfl
  gi_wp2_with fail
  refine ⟨trivial, (callsIn_wide.2 (newCutter_ok s hs _)).mono ?_⟩
  rintro e w' ⟨rfl, rfl⟩
  have bO := Boxed.new w 23 (.slice none 0 0)
  have bA := Boxed.new (w.alloc (.cells #[.slice none 0 0] 23)) 3 (.int .i64 0)
  have bE := Boxed.new ((w.alloc (.cells #[.slice none 0 0] 23)).alloc (.cells #[.int .i64 0] 3)) 24 (.int .i64 0)
  have bC : CutB ((((w.alloc (.cells #[.slice none 0 0] 23)).alloc (.cells #[.int .i64 0] 3)).alloc (.cells #[.int .i64 0] 24)).alloc (.cells #[.string s, .int .i64 0, .int .i64 0, .bool false] 89)) (w.heap.size + 3) s 0 0 false := by
    have := World.alloc_heap_new (((w.alloc (.cells #[.slice none 0 0] 23)).alloc (.cells #[.int .i64 0] 3)).alloc (.cells #[.int .i64 0] 24)) (.cells #[.string s, .int .i64 0, .int .i64 0, .bool false] 89)
    simp only [World.size_alloc] at this
    exact this
  simp only [World.size_alloc] at bA bE
  have hb4 : Below w.heap.size w ((((w.alloc (.cells #[.slice none 0 0] 23)).alloc (.cells #[.int .i64 0] 3)).alloc (.cells #[.int .i64 0] 24)).alloc (.cells #[.string s, .int .i64 0, .int .i64 0, .bool false] 89)) :=
    ((((Below.refl _ w).alloc (Nat.le_refl _) _).alloc (by simp) _).alloc (by simp; try omega) _).alloc (by simp; try omega) _
  have hP : PI w s [] ⟨0, 0, false⟩ ((((w.alloc (.cells #[.slice none 0 0] 23)).alloc (.cells #[.int .i64 0] 3)).alloc (.cells #[.int .i64 0] 24)).alloc (.cells #[.string s, .int .i64 0, .int .i64 0, .bool false] 89)) :=
    ⟨bC, he.below hb4, ⟨_, ((bO.alloc _).alloc _).alloc _, World.ownsRow_nil _ _ _ _, by simp⟩, (bA.alloc _).alloc _, bE.alloc _, hb4⟩
  have HP := Lib.hid hP
  clear hP bO bA bE bC hb4
  gi_wp2_with fail
  refine range_cut s (w.heap.size + 3) hs ⟨0, 0, false⟩ (Nat.zero_le _) (Nat.zero_le _) rfl rfl (PI w s) (fun _ _ _ _ => False)
    (fun pre x W h => ⟨h.1, h.2.1⟩) (fun pre x x' W W' h hg hc => PI.take h6 h hg hc) (PI.stable h6 (by simp)) (fun _ _ _ _ _ _ _ h _ _ => h) HP.out
    (fun p pb => { tmps := #[.string s, undef, .pointer (some ⟨w.heap.size, 0, none⟩), .pointer (some ⟨w.heap.size + 1, 0, none⟩), .pointer (some ⟨w.heap.size + 1 + 1, 0, none⟩), .pointer (some ⟨pb, 0, none⟩),
        .func (.func 36) #[] #[.pointer (some ⟨w.heap.size, 0, none⟩), .pointer (some ⟨w.heap.size + 1, 0, none⟩), .pointer (some ⟨w.heap.size + 1 + 1, 0, none⟩)], .string s, .pointer (some ⟨w.heap.size + 1 + 1 + 1, 0, none⟩),
        .func (.func 38) #[.pointer (some ⟨w.heap.size + 1 + 1 + 1, 0, none⟩)] #[], PcV p, undef, undef, undef, undef, undef], defers := [] }) ?assign ?body ?done ?stop ?panic
  case assign =>
    intro l p W K hK
    simp only [PcV] at hK ⊢
    gi_wp2
    exact hK
  case body =>
    rintro l pre x p pb W ⟨h1, h2, ⟨v, hv, hr, hn⟩, h4, h5, hb⟩ hp hpb hxi hpx hq
    have hcount : pre.length + 1 ≤ 20000 := by
      have := qFrom_length s.data.toList ⟨0, 0, false⟩
      rw [hq] at this; simp at this; omega
    have H1 := Lib.hid h1
    have H2 := Lib.hid h2
    have HN := Lib.hid hn
    clear hq h1 h2 hn
    have hc := hv.cell
    obtain ⟨p0, p1, p2, _, _, _⟩ := cells3 hp
    gi_wp2_with (gi_at_builtin; refine wpListIn_append_own _ rfl _ _ 23 rfl w.heap.size 59 i0 (.agg #[.int .i64 0, .int .i64 0, .int .i64 0]) 3 24 Tryz.underlying23 hi0 hz0 hz1 hz2 rfl (by decide) _ _ _ rfl (hr.alloc _) ⟨W.heap.size, 0, none⟩ 1 1 (pcCells p) rfl rfl (cells_three_new _ _ _ _ _) (by simp [pcCells, Value.oneCell']) (by unfold maxLen; omega) (by omega) (by have := hb.size; simp; omega) ?_; intro v' w1 hown' hgrow _; obtain ⟨g', cap', rfl⟩ := ownsRow_succ hown'; have hfin := Lib.hid (PI.more h6 H1 H2 hv hr h4 h5 hb hown' rfl hgrow); obtain ⟨hv1, _, _, _, _⟩ := hv.appended (by decide) hr hb.size (Nat.le_refl _) hown' hgrow; have hc1 := hv1.cell; have hf1 := hv1.frozen)
    exact ⟨by simpa using hfin.out.1, hfin.out.2⟩
  case done =>
    rintro D pre x W hD ⟨h1, h2, ⟨v, hv, hr, hn⟩, h4, h5, hb⟩ hq _ hK
    obtain ⟨va, vn, vc, rfl⟩ := ownsRow_slice hr
    have c1 := hv.cell
    have c2 := h4.cell
    have c3 : W.cell? ⟨w.heap.size + 1 + 1, 0, none⟩ = _ := h5.cell
    have f1 := hv.frozen
    have f2 := h4.frozen
    have f3 : W.frozen? ⟨w.heap.size + 1 + 1, 0, none⟩ = _ := h5.frozen
    have HQ := Lib.hid hq
    have HN := Lib.hid hn
    clear hq hn
    gi_wp2
    have hD4 : w.heap.size + 4 ≤ D := by simpa using hD
    have b1 := ((hv.set (.slice va vn vc)).other (B' := w.heap.size + 1) (by simp) (.int .i64 0)).other (B' := w.heap.size + 1 + 1) (by omega) (.int .i64 0)
    have b2 := ((h4.other (B' := w.heap.size) (by omega) (.slice va vn vc)).set (.int .i64 0)).other (B' := w.heap.size + 1 + 1) (by omega) (.int .i64 0)
    have b3 := ((h5.other (B' := w.heap.size) (by omega) (.slice va vn vc)).other (B' := w.heap.size + 1) (by omega) (.int .i64 0)).set (.int .i64 0)
    have hr' := owns_set (owns_set (owns_set hr hv (by decide) (.slice va vn vc)) (h4.other (B' := w.heap.size) (by omega) _) (by decide) (.int .i64 0)) ((h5.other (B' := w.heap.size) (by omega) _).other (B' := w.heap.size + 1) (by omega) _) (by decide) (.int .i64 0)
    have hb' := ((hb.setCell (p := ⟨w.heap.size, 0, none⟩) (Nat.le_refl _) (.slice va vn vc)).setCell (p := ⟨w.heap.size + 1, 0, none⟩) (by simp) (.int .i64 0)).setCell (p := ⟨w.heap.size + 1 + 1, 0, none⟩) (by simp; omega) (.int .i64 0)
    have hK' := (Below.heap_setCell ((W.setCell ⟨w.heap.size, 0, none⟩ (.slice va vn vc)).setCell ⟨w.heap.size + 1, 0, none⟩ (.int .i64 0)) ⟨w.heap.size + 1 + 1, 0, none⟩ (.int .i64 0) D (by show D ≠ w.heap.size + 1 + 1; omega)).trans
      ((Below.heap_setCell (W.setCell ⟨w.heap.size, 0, none⟩ (.slice va vn vc)) ⟨w.heap.size + 1, 0, none⟩ (.int .i64 0) D (by show D ≠ w.heap.size + 1; omega)).trans ((Below.heap_setCell W ⟨w.heap.size, 0, none⟩ (.slice va vn vc) D (by show D ≠ w.heap.size; omega)).trans hK))
    refine ⟨by simp, .inl ⟨D, _, rfl, run_takeDeferred hK', ?_⟩⟩
    refine ⟨by simp, .inr ⟨fun _ => by omega, _, _, 36, #[.pointer (some ⟨w.heap.size, 0, none⟩), .pointer (some ⟨w.heap.size + 1, 0, none⟩), .pointer (some ⟨w.heap.size + 1 + 1, 0, none⟩)], rfl, by simp [invoke, go_sem], fun _ _ => trivial, (catch_idle _ _ _ _).mono ?_⟩⟩
    rintro e u' W2 ⟨rfl, rfl, hb2⟩
    refine ⟨_, res15 w.heap.size _ W2 va vn vc 0 0 rfl rfl rfl (Boxed.bl (Boxed.put b1 _ (by omega)) hb2) (Boxed.bl (Boxed.put b2 _ (by omega)) hb2) (Boxed.bl (Boxed.put b3 _ (by omega)) hb2), ?_, (hb'.trans (belowK_b (w := w) (Nat.le_refl _) _ D _ _ (by omega) hK' rfl rfl)).trans (hb2.mono (by simpa using hb'.size))⟩
    unfold PiecesEnd
    rw [HQP.out, HQ.out]
    exact ⟨_, rfl, fun _ => ⟨owns_bl (ownsRow_putObj hr' _ hK' rfl) hb2, HN.out⟩, fun h => absurd rfl h⟩
  case stop =>
    intro D c pre rest x W _ h _ _
    exact h.elim
  case panic =>
    rintro D pre x er W hD ⟨h1, h2, ⟨v, hv, hr, hn⟩, h4, h5, hb⟩ her hq hK
    have HQ := Lib.hid hq
    clear hq hn
    gi_wp2
    have hD4 : w.heap.size + 4 ≤ D := by simpa using hD
    refine ⟨by simp, .inl ⟨D, _, rfl, run_takeDeferred hK, ?_⟩⟩
    refine ⟨by simp, .inr ⟨fun _ => by omega, _, _, 36, #[.pointer (some ⟨w.heap.size, 0, none⟩), .pointer (some ⟨w.heap.size + 1, 0, none⟩), .pointer (some ⟨w.heap.size + 1 + 1, 0, none⟩)], rfl, by simp [invoke, go_sem], fun _ _ => trivial,
      (catch_bad w.heap.size (w.heap.size + 1) (w.heap.size + 1 + 1) _ _ _ er x.i _ (Boxed.put hv _ (by omega)) (Boxed.put h4 _ (by omega)) (Boxed.put h5 _ (by omega)) (by omega) (by omega) (by omega)).mono ?_⟩⟩
    rintro e u' W2 ⟨rfl, rfl, k1, k2, k3, hb2⟩
    refine ⟨_, res15 w.heap.size _ W2 none 0 0 x.i er rfl rfl rfl k1 k2 k3, ?_, (hb.trans (belowK_b (w := w) (Nat.le_refl _) _ D _ _ (by omega) hK rfl rfl)).trans (hb2 w.heap.size (by simpa using hb.size) (by omega) (by omega) (by omega))⟩
    unfold PiecesEnd
    rw [HQP.out, HQ.out]
    exact ⟨_, rfl, fun h => (by cases h), fun _ => rfl⟩
end Go.Proofs.YtdfkkeeohbgmbaaGreatDoor
