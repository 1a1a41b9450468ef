/- Package skerryref01: Pieces, Kind, IsName, IsPlain, Split, SamePieces, Equal, Scan; the library's Cut at one byte. -/
import Derived.Test.YtopbmndjnjnmcaaGreatDoorQ3
import Derived.Test.YtopbmndjnjnmcaaGreatDoorAB
import Derived.Test.YtopbmndjnjnmcaaGreatDoorA21
import Derived.Laws.StructEq
import Derived.Test.YtopbmndjnjnmcaaGreatDoorQ1
namespace Go.Proofs.YtopbmndjnjnmcaaGreatDoor
open Go.RowKit Lx

attribute [local go_sem] Oper.semAt_some

theorem next_tok {l : Bs} {i kind len : Nat} {op : Bool} (h : qNext l i op = ⟨0, kind, len⟩) (hk : kind < 7) : qLongest ((l.drop i).take 100) op = (kind, len) := by
  unfold qNext at h
  split at h
  · rename_i hc; injection h with h1 _ _; exact absurd h1 hc
  · split at h
    · injection h with _ h2 _; omega
    · split at h
      · injection h with _ h2 _; omega
      · split at h
        · rename_i hc; injection h with h1 _ _; exact absurd h1 hc
        · injection h with _ h2 h3
          rw [← h2, ← h3]
theorem sign_close (c : UInt8) (t : Bs) (h : c = 41 ∨ c = 93) : qSign (c :: t) = 1 := by
  unfold qSign
  rcases h with rfl | rfl
  all_goals
    rw [if_neg (by cases t <;> simp [qTwo])]
    simp [qOne]
/-- What makes the next - a sign, by the token's text. -/
theorem oper_is {l : Bs} {i kind len : Nat} {op : Bool} (hi : i < l.length) (h : qNext l i op = ⟨0, kind, len⟩) (hk : kind < 7) : rOper kind ((l.drop i).take len) = qOper l i kind := by
  have hl := (qNext_len l i op hi (by rw [h])).1
  rw [h] at hl
  simp only at hl
  obtain ⟨c, hc⟩ : ∃ c, l[i]? = some c := ⟨_, List.getElem?_eq_getElem hi⟩
  have hd : l.drop i = c :: l.drop (i + 1) := by
    rw [List.drop_eq_getElem_cons hi]
    rw [List.getElem?_eq_getElem hi] at hc
    injection hc with hc; rw [hc]
  by_cases h5 : kind = 5
  · subst h5
    have hq := next_tok h hk
    rcases longest_kind hq with ⟨h0, _⟩ | ⟨_, j, hj, hj1, hj2⟩
    · omega
    · obtain rfl : j = 4 := by omega
      have hS : qSign ((l.drop i).take 100) = len := hj2
      rw [hd, List.take_succ_cons] at hS
      unfold rOper qOper
      rw [hc]
      by_cases hcc : c = 41 ∨ c = 93
      · rw [sign_close c _ hcc] at hS
        rw [← hS, hd]
        rcases hcc with rfl | rfl <;> rfl
      · have n1 : c ≠ 41 := fun e => hcc (.inl e)
        have n2 : c ≠ 93 := fun e => hcc (.inr e)
        obtain ⟨m, rfl⟩ : ∃ m, len = m + 1 := ⟨len - 1, by omega⟩
        rw [hd, List.take_succ_cons]
        have e1 : ∀ (d : UInt8) (u : Bs), c ≠ d → (c :: u == [d]) = false := fun d u hne => by
          rw [beq_eq_false_iff_ne]; intro e; injection e with e; exact hne e
        have f1 : ∀ (d : UInt8), c ≠ d → (some c == some d) = false := fun d hne => by
          rw [beq_eq_false_iff_ne]; intro e; injection e with e; exact hne e
        rw [e1 41 _ n1, e1 93 _ n2, f1 41 n1, f1 93 n2]
  · have e5 : (kind == 5) = false := by rw [beq_eq_false_iff_ne]; exact h5
    unfold rOper qOper
    rw [e5, Bool.false_and, Bool.false_and]

theorem owns_down {W : World} {b e sz n : Nat} {v : Value} {xs : List Value} (h : W.ownsRow (b + 1) e sz v n xs) : W.ownsRow b e sz v n xs :=
  ⟨h.1, h.2.imp id (fun ⟨g, cap, cur, h1, h2, h3⟩ => ⟨g, cap, cur, h1, Nat.le_of_succ_le h2, h3⟩)⟩
/-- What Pieces holds. -/
structure PcsI (w : World) (v : Value) (pre : List Pc) (W : World) : Prop where
  own : W.ownsRow (w.heap.size + 1) 127 3 v pre.length (pcsCells pre)
  nil : v = .slice none 0 0 ↔ pre = []
  res : W.heap[w.heap.size]? = some (.cells #[.slice none 0 0, .int .i64 0, .int .i64 0] 124 (0, 0))
  bel : Below w.heap.size w W
section
variable {w W W' W2 : World} {v : Value} {pre : List Pc}
theorem PcsI.lt (h : PcsI w v pre W) : w.heap.size < W.heap.size := (Array.getElem?_eq_some_iff.1 h.res).1
theorem PcsI.bl (h : PcsI w v pre W) (hb : Below W.heap.size W W') : PcsI w v pre W' :=
  ⟨owns_bl' h.own hb, h.nil, (hb.block _ h.lt).trans h.res, h.bel.trans (hb.mono h.bel.size)⟩
theorem PcsI.cells (h : PcsI w v pre W) : W.cell? ⟨w.heap.size, 0, none⟩ = some (.slice none 0 0) ∧ W.cell? ⟨w.heap.size, 1, none⟩ = some (.int .i64 0) ∧ W.cell? ⟨w.heap.size, 2, none⟩ = some (.int .i64 0) ∧
    W.frozen? ⟨w.heap.size, 0, none⟩ = false ∧ W.frozen? ⟨w.heap.size, 1, none⟩ = false ∧ W.frozen? ⟨w.heap.size, 2, none⟩ = false := by
  refine ⟨by rw [cell_of_row _ _ _ _ _ _ h.res]; rfl, by rw [cell_of_row _ _ _ _ _ _ h.res]; rfl, by rw [cell_of_row _ _ _ _ _ _ h.res]; rfl, ?_, ?_, ?_⟩ <;> simp [World.frozen?, h.res]
theorem PcsI.more {p : Pc} {g cap : Nat} (h : PcsI w v pre W) (hb : Below W.heap.size W W2) (hown : W'.ownsRow (w.heap.size + 1) 127 3 (.slice (some ⟨g, 0, none⟩) (pre.length + 1) cap) (pre.length + 1) (pcsCells pre ++ pcCells p)) (hgrow : W2.grownBy W' v.ownBlock) :
    PcsI w (.slice (some ⟨g, 0, none⟩) (pre.length + 1) cap) (pre ++ [p]) W' := by
  have hl := h.own.lt
  have hbb : Below (w.heap.size + 1) W W' := (hb.mono h.lt).grown hgrow (by have := hb.size; have := h.lt; omega) (fun j e => (hl j e).1)
  refine ⟨?_, by simp, (hbb.block _ (Nat.lt_succ_self _)).trans h.res, h.bel.trans (hbb.mono (Nat.le_succ _))⟩
  rw [pcsCells_app, List.length_append]
  simpa [pcsCells] using hown
/-- The result, in place. -/
theorem PcsI.put (h : PcsI w v pre W) (a b c : Value) :
    (((W.setCell ⟨w.heap.size, 0, none⟩ a).setCell ⟨w.heap.size, 1, none⟩ b).setCell ⟨w.heap.size, 2, none⟩ c).heap[w.heap.size]? = some (.cells #[a, b, c] 124 (0, 0)) ∧
    Below w.heap.size w (((W.setCell ⟨w.heap.size, 0, none⟩ a).setCell ⟨w.heap.size, 1, none⟩ b).setCell ⟨w.heap.size, 2, none⟩ c) ∧
    (((W.setCell ⟨w.heap.size, 0, none⟩ a).setCell ⟨w.heap.size, 1, none⟩ b).setCell ⟨w.heap.size, 2, none⟩ c).ownsRow w.heap.size 127 3 v pre.length (pcsCells pre) :=
  ⟨heap_set _ _ 2 _ _ _ _ (heap_set _ _ 1 _ _ _ _ (heap_set _ _ 0 _ _ _ _ h.res)),
   ((h.bel.setCell (p := ⟨w.heap.size, 0, none⟩) (Nat.le_refl _) _).setCell (p := ⟨w.heap.size, 1, none⟩) (Nat.le_refl _) _).setCell (p := ⟨w.heap.size, 2, none⟩) (Nat.le_refl _) _,
   owns_down (ownsRow_setCell_below (ownsRow_setCell_below (ownsRow_setCell_below h.own (a := ⟨w.heap.size, 0, none⟩) (Nat.lt_succ_self _) _) (a := ⟨w.heap.size, 1, none⟩) (Nat.lt_succ_self _) _) (a := ⟨w.heap.size, 2, none⟩) (Nat.lt_succ_self _) _)⟩
end
/-- The result's cells, as they were made. -/
structure PRes2 (w W : World) : Prop where
  res : W.heap[w.heap.size]? = some (.cells #[.slice none 0 0, .int .i64 0, .int .i64 0] 124 (0, 0))
  bel : Below w.heap.size w W
section
variable {w W W' : World}
theorem PRes2.bl (h : PRes2 w W) (hb : Below W.heap.size W W') : PRes2 w W' :=
  ⟨(hb.block _ (Array.getElem?_eq_some_iff.1 h.res).1).trans h.res, h.bel.trans (hb.mono h.bel.size)⟩
theorem PRes2.cells (h : PRes2 w W) : W.cell? ⟨w.heap.size, 0, none⟩ = some (.slice none 0 0) ∧ W.cell? ⟨w.heap.size, 1, none⟩ = some (.int .i64 0) ∧ W.cell? ⟨w.heap.size, 2, none⟩ = some (.int .i64 0) ∧
    W.frozen? ⟨w.heap.size, 0, none⟩ = false ∧ W.frozen? ⟨w.heap.size, 1, none⟩ = false ∧ W.frozen? ⟨w.heap.size, 2, none⟩ = false := by
  refine ⟨by rw [cell_of_row _ _ _ _ _ _ h.res]; rfl, by rw [cell_of_row _ _ _ _ _ _ h.res]; rfl, by rw [cell_of_row _ _ _ _ _ _ h.res]; rfl, ?_, ?_, ?_⟩ <;> simp [World.frozen?, h.res]
theorem PRes2.put (h : PRes2 w W) (a b c : Value) :
    (((W.setCell ⟨w.heap.size, 0, none⟩ a).setCell ⟨w.heap.size, 1, none⟩ b).setCell ⟨w.heap.size, 2, none⟩ c).heap[w.heap.size]? = some (.cells #[a, b, c] 124 (0, 0)) ∧
    Below w.heap.size w (((W.setCell ⟨w.heap.size, 0, none⟩ a).setCell ⟨w.heap.size, 1, none⟩ b).setCell ⟨w.heap.size, 2, none⟩ c) :=
  ⟨heap_set _ _ 2 _ _ _ _ (heap_set _ _ 1 _ _ _ _ (heap_set _ _ 0 _ _ _ _ h.res)),
   ((h.bel.setCell (p := ⟨w.heap.size, 0, none⟩) (Nat.le_refl _) _).setCell (p := ⟨w.heap.size, 1, none⟩) (Nat.le_refl _) _).setCell (p := ⟨w.heap.size, 2, none⟩) (Nat.le_refl _) _⟩
end
theorem info28 : (Tryz.prog.info? 124).map (·.size) = some 3 := by kernel_rfl
theorem cuts_ret {fn : Func} {tmps : Array Value} {W : World} {g : Nat} {cs : Array Value} {Post : Ending → World → Prop} (hf : fn.results = #[.cell 2 124]) (hp : tmps.getD 2 undef = .pointer (some ⟨g, 0, none⟩)) (hg : W.heap[g]? = some (.cells cs 124 (0, 0))) (hs : cs.size = 3) (h : Post (.returned (.agg cs)) W) :
    bodyPost Tryz.prog fn Post Exit.ret { tmps := tmps, defers := [] } W :=
  bodyPost_ret (results_cell_row hf tmps W g 124 cs (0, 0) _ hp hg Tryz.underlying124 rfl (by rw [hs]; exact info28)) rfl h

theorem good_err {l : Bs} {pre : List Pc} {e at_ : Nat} (h : qPieces l = (pre, some (e, at_))) : qGood l = [] ∧ qErr l = e ∧ qErrAt l = at_ := by
  unfold qGood qErr qErrAt; rw [h]; exact ⟨if_neg (by simp), rfl, rfl⟩
theorem good_ok {l : Bs} {pre : List Pc} (h : qPieces l = (pre, none)) : qGood l = pre ∧ qErr l = 0 ∧ qErrAt l = 0 := by
  unfold qGood qErr qErrAt; rw [h]; exact ⟨if_pos rfl, rfl, rfl⟩

theorem pieces_step {l : Bs} {x : St} {kind len : Nat} (hi : x.i < l.length) (h : qNext l x.i x.op = ⟨0, kind, len⟩) (hk : ¬ (kind < 7 ∧ x.t = 6000)) :
    qFrom l x = (⟨kind, x.i, len⟩ :: (qFrom l (qAfter l x kind len)).1, (qFrom l (qAfter l x kind len)).2) := by
  rw [qFrom_cons l x hi (by rw [h]) (by rw [h]; exact hk), h]

set_option maxRecDepth 100000 in
set_option maxHeartbeats 8000000 in
/-- **Pieces** -/
theorem refPieces_any (s : ByteArray) (hm : s.size ≤ maxLen) (w : World) :
    Calls Tryz.prog 97 #[.string s] w fun e W => ∃ v, e = .returned (.agg #[v, .int .i64 (qErrAt s.data.toList : Nat), .int .i64 (qErr s.data.toList : Nat)]) ∧
      W.ownsRow w.heap.size 127 3 v (qGood s.data.toList).length (pcsCells (qGood s.data.toList)) ∧ (v = .slice none 0 0 ↔ qGood s.data.toList = []) ∧ Below w.heap.size w W := by
  obtain ⟨i0, hi0, hz0, hz1, hz2⟩ := info_parts info33
  unfold maxLen at hm
  have hlen : s.data.toList.length = s.size := by simp
  have HLEN := Lib.hid hlen
  clear hlen
  by_cases hbig : 20000 < s.size
  · have d : decide ((20000 : Int) < (s.size : Int)) = true := decide_eq_true (by omega)
    obtain ⟨g1, g2, g3⟩ := good_err (l := s.data.toList) (pre := []) (e := 2) (at_ := 0) (if_pos (by rw [HLEN.out]; exact hbig))
    rw [g1, g2, g3]
    go_enter Tryz.func97, Tryz.ntmps97
    go_wp2_with fail
    refine cuts_ret rfl rfl (heap_alloc_new w _) rfl ?_
    exact ⟨_, rfl, World.ownsRow_nil _ _ _ _, by simp, (Below.refl _ w).alloc (Nat.le_refl _) _⟩
  · have d : decide ((20000 : Int) < (s.size : Int)) = false := decide_eq_false (by omega)
    have hstart : qPieces s.data.toList = qFrom s.data.toList ⟨0, 0, false⟩ := if_neg (by rw [HLEN.out]; exact hbig)
    have HST := Lib.hid hstart
    clear hstart
    go_enter Tryz.func97, Tryz.ntmps97
    go_wp2_with fail
    have hI0 : PcsI w (.slice none 0 0) [] (w.alloc (.cells #[.slice none 0 0, .int .i64 0, .int .i64 0] 124)) :=
      ⟨World.ownsRow_nil _ _ _ _, by simp, heap_alloc_new w _, (Below.refl _ w).alloc (Nat.le_refl _) _⟩
    go_loopw [3, 4, 5, 6, 7] (fun v t o a _ wr => ∃ (pre : List Pc) (x : St), x.i ≤ s.size ∧ x.t ≤ 6000 ∧ pre.length ≤ x.i ∧ t = .int .i64 x.t ∧ o = .bool x.op ∧ a = .int .i64 x.i ∧ (∃ a n c, v = .slice a n c) ∧ Hid (PcsI w v pre wr) ∧ Hid (qPieces s.data.toList = (pre ++ (qFrom s.data.toList x).1, (qFrom s.data.toList x).2))) (fun _ _ _ a _ _ => s.size - (intOf a).toNat)
    case atStart => exact ⟨[], ⟨0, 0, false⟩, by simp, by simp, by simp, rfl, rfl, rfl, ⟨_, _, _, rfl⟩, Lib.hid hI0, Lib.hid (by rw [HST.out]; rfl)⟩
    case round =>
      clear hI0
      obtain ⟨pre, x, hx1, hx2, hx3, rfl, rfl, rfl, ⟨va, vn, vc, rfl⟩, HI, HQ⟩ := hrel
      obtain ⟨xi, xt, xo⟩ := x
      simp only at hx1 hx2 hx3 ⊢
      by_cases hlt : xi < s.size
      · have d1 : decide ((xi : Int) < (s.size : Int)) = true := decide_eq_true (by omega)
        have d1b : decide (xi < s.size) = true := decide_eq_true hlt
        obtain ⟨er, kind, len, hn⟩ : ∃ er kind len, qNext s.data.toList xi xo = ⟨er, kind, len⟩ := ⟨_, _, _, rfl⟩
        have HN := Lib.hid hn
        by_cases her : er = 0
        · subst her
          have hl := qNext_len s.data.toList xi xo (by rw [HLEN.out]; exact hlt) (by rw [hn])
          rw [hn, HLEN.out] at hl
          simp only at hl
          obtain ⟨l1, l2, l3⟩ := hl
          clear hn
          by_cases hk : kind < 7
          · have h7 : decide ((kind : Int) ≤ 6) = true := decide_eq_true (by omega)
            have h7b : decide (kind ≤ 6) = true := decide_eq_true (by omega)
            have q0 : (0 : Int) ≤ (xi : Int) := by omega
            have q1 : (xi : Int) ≤ (xi : Int) + (len : Int) := by omega
            have q2 : (xi : Int) + (len : Int) ≤ (s.size : Int) := by omega
            by_cases ht : xt = 6000
            · have h6 : decide ((6000 : Int) < (xt : Int) + 1) = true := decide_eq_true (by omega)
              have h6b : decide (6000 < xt + 1) = true := decide_eq_true (by omega)
              have hpv : pieceV (qNext s.data.toList xi xo) xi = .agg #[.int .i64 kind, .int .i64 xi, .int .i64 len, .int .i64 0] := by rw [HN.out]; exact if_neg (by simp)
              have hq : qPieces s.data.toList = (pre ++ [], some (2, xi)) := by
                rw [HQ.out, qFrom_many _ ⟨xi, xt, xo⟩ (by rw [HLEN.out]; exact hlt) (by rw [HN.out]) (by rw [HN.out]; exact hk) ht]
              have HG := Lib.hid (good_err hq)
              clear hq
              go_wp2_with fail
              refine (refPiece_any s xi xo (by omega) hlt _).mono ?_
              rintro e w1 ⟨rfl, hb1⟩
              rw [hpv]
              go_upto_region 12 with fail
              have hI1 := HI.out.bl (hb1.alloc hb1.size (.cells #[.int .i64 kind, .int .i64 xi, .int .i64 len, .int .i64 0] 152))
              have hC := heap_alloc_new w1 (.cells #[.int .i64 kind, .int .i64 xi, .int .i64 len, .int .i64 0] 152)
              obtain ⟨w2, hw2⟩ : ∃ w2, w1.alloc (.cells #[.int .i64 kind, .int .i64 xi, .int .i64 len, .int .i64 0] 152) = w2 := ⟨_, rfl⟩
              rw [hw2] at hI1 hC ⊢
              obtain ⟨g, hg⟩ : ∃ g, w1.heap.size = g := ⟨_, rfl⟩
              rw [hg] at hC ⊢
              have hgw : w.heap.size < g := by have := (HI.out.bl hb1).lt; omega
              have HI1 := Lib.hid hI1
              have HC := Lib.hid hC
              have m3 : w2.cell? ⟨g, 3, none⟩ = some (.int .i64 0) := by rw [cell_of_row _ _ _ _ _ _ hC]; rfl
              have f3 : w2.frozen? ⟨g, 3, none⟩ = false := by simp [World.frozen?, hC]
              clear hI1 hC hg hw2 hb1 hpv HI
              go_upto_region 13 with fail
              have hC2 := heap_set _ _ 3 _ _ _ (.int .i64 2) HC.out
              have hI2 : PRes2 w (w2.setCell ⟨g, 3, none⟩ (.int .i64 2)) := ⟨(Below.heap_setCell _ ⟨g, 3, none⟩ _ _ (by show w.heap.size ≠ g; omega)).trans HI1.out.res, HI1.out.bel.setCell (p := ⟨g, 3, none⟩) (by show w.heap.size ≤ g; omega) _⟩
              obtain ⟨w3, hw3⟩ : ∃ w3, w2.setCell ⟨g, 3, none⟩ (.int .i64 2) = w3 := ⟨_, rfl⟩
              rw [hw3] at hC2 hI2 ⊢
              have n0 : w3.cell? ⟨g, 0, none⟩ = some (.int .i64 kind) := by rw [cell_of_row _ _ _ _ _ _ hC2]; rfl
              have n2 : w3.cell? ⟨g, 2, none⟩ = some (.int .i64 len) := by rw [cell_of_row _ _ _ _ _ _ hC2]; rfl
              have HC2 := Lib.hid hC2
              have HI2 := Lib.hid hI2
              clear hC2 hI2 hw3 m3 f3 HC HI1
              go_big_quiet ((go_at_call 121; exact Calls.quiet_of_same (refOperand_any _ _ _)))
              have hI3 := HI2.out.bl (bl w3 nq)
              have hC3 : (w3.drewN nq).heap[g]? = some (.cells #[.int .i64 kind, .int .i64 xi, .int .i64 len, .int .i64 2] 152 (0, 0)) := HC2.out
              obtain ⟨w4, hw4⟩ : ∃ w4, w3.drewN nq = w4 := ⟨_, rfl⟩
              rw [hw4] at hI3 hC3 ⊢
              have m3 : w4.cell? ⟨g, 3, none⟩ = some (.int .i64 2) := by rw [cell_of_row _ _ _ _ _ _ hC3]; rfl
              obtain ⟨c0, c1, c2, f0, f1, f2⟩ := hI3.cells
              have HI3 := Lib.hid hI3
              clear n0 n2 hw4 HC2 HI2 hI3 hC3
              go_wp2_with fail
              refine cuts_ret rfl rfl (HI3.out.put _ _ _).1 rfl ?_
              rw [HG.out.1, HG.out.2.1, HG.out.2.2]
              exact ⟨_, rfl, World.ownsRow_nil _ _ _ _, by simp, (HI3.out.put _ _ _).2⟩
            · have h6 : decide ((6000 : Int) < (xt : Int) + 1) = false := decide_eq_false (by omega)
              have h6b : decide (6000 < xt + 1) = false := decide_eq_false (by omega)
              have hpv : pieceV (qNext s.data.toList xi xo) xi = .agg #[.int .i64 kind, .int .i64 xi, .int .i64 len, .int .i64 0] := by rw [HN.out]; exact if_neg (by simp)
              go_wp2_with fail
              refine (refPiece_any s xi xo (by omega) hlt _).mono ?_
              rintro e w1 ⟨rfl, hb1⟩
              rw [hpv]
              go_upto_region 13 with fail
              have hI1 := HI.out.bl (hb1.alloc hb1.size (.cells #[.int .i64 kind, .int .i64 xi, .int .i64 len, .int .i64 0] 152))
              have hC := heap_alloc_new w1 (.cells #[.int .i64 kind, .int .i64 xi, .int .i64 len, .int .i64 0] 152)
              obtain ⟨w2, hw2⟩ : ∃ w2, w1.alloc (.cells #[.int .i64 kind, .int .i64 xi, .int .i64 len, .int .i64 0] 152) = w2 := ⟨_, rfl⟩
              rw [hw2] at hI1 hC ⊢
              obtain ⟨g, hg⟩ : ∃ g, w1.heap.size = g := ⟨_, rfl⟩
              rw [hg] at hC ⊢
              have HI1 := Lib.hid hI1
              have HC := Lib.hid hC
              have m0 : w2.cell? ⟨g, 0, none⟩ = some (.int .i64 kind) := by rw [cell_of_row _ _ _ _ _ _ hC]; rfl
              have m2 : w2.cell? ⟨g, 2, none⟩ = some (.int .i64 len) := by rw [cell_of_row _ _ _ _ _ _ hC]; rfl
              clear hI1 hC hg hw2 hb1 hpv HI
              go_big_quiet ((go_at_call 121; exact Calls.quiet_of_same (refOperand_any _ _ _)))
              obtain ⟨w3, hw3⟩ : ∃ w3, w2.drewN nq = w3 := ⟨_, rfl⟩
              have hI3 := HI1.out.bl (bl w2 nq)
              have hC3 : (w2.drewN nq).heap[g]? = some (.cells #[.int .i64 kind, .int .i64 xi, .int .i64 len, .int .i64 0] 152 (0, 0)) := HC.out
              rw [hw3] at hI3 hC3 ⊢
              clear m0 m2 hw3 HI1 HC
              have HI3 := Lib.hid hI3
              have HC3 := Lib.hid hC3
              have m0 : w3.cell? ⟨g, 0, none⟩ = some (.int .i64 kind) := by rw [cell_of_row _ _ _ _ _ _ hC3]; rfl
              have m1 : w3.cell? ⟨g, 1, none⟩ = some (.int .i64 xi) := by rw [cell_of_row _ _ _ _ _ _ hC3]; rfl
              have m2 : w3.cell? ⟨g, 2, none⟩ = some (.int .i64 len) := by rw [cell_of_row _ _ _ _ _ _ hC3]; rfl
              have m3 : w3.cell? ⟨g, 3, none⟩ = some (.int .i64 0) := by rw [cell_of_row _ _ _ _ _ _ hC3]; rfl
              have hglt : g < w3.heap.size := (Array.getElem?_eq_some_iff.1 hC3).1
              have hne : (Value.slice va vn vc).ownBlock ≠ some g := by
                rcases row_cells hI3.own hC3 (fun cs fr e => by cases e) with h | h
                · rw [h]; simp
                · exact h
              have hszw : w.heap.size + 1 ≤ w3.heap.size := hI3.lt
              clear hI3 hC3
              go_wp2_with (at_builtin; refine wpList_append_lies _ rfl (.tmp 53) (.tmp 56) 122 rfl (w.heap.size + 1) 127 i0 _ 3 24 Tryz.underlying122 hi0 hz0 hz1 hz2 rfl (by omega) (.slice va vn vc) _ _ (by rfl) (HI3.out.own.alloc _) ⟨w3.heap.size, 0, none⟩ 1 1 (pcCells ⟨kind, xi, len⟩) (by rfl) (by rfl) (World.news_of_block (cs := (pcCells ⟨kind, xi, len⟩).toArray) (t := 127) (fr := (0, 0)) (heap_alloc_new w3 _)) (by simp [pcCells, Value.oneCell']) (by omega) (by unfold maxLen; omega) (by omega) (by rw [World.size_alloc]; omega) (w3.heap.size + 1) (World.size_alloc _ _) ?_; intro gg cap w10 hown1 hgrow hat hgl; have n2 : w10.cell? ⟨g, 2, none⟩ = some (.int .i64 len) := hgrow.cell (a := ⟨g, 2, none⟩) ((Below.heap_alloc_cell w3 _ _ hglt).trans m2) (fun e => hne e.symm))
              go_roundw
              case rel => exact ⟨pre ++ [⟨kind, xi, len⟩], ⟨xi + len, xt + 1, qOper s.data.toList xi kind⟩, by simpa using l2, by simp only; omega, by rw [List.length_append]; simp only [List.length_singleton]; omega, rfl, congrArg Value.bool (oper_is (l := s.data.toList) (by rw [HLEN.out]; exact hlt) HN.out hk), rfl, ⟨_, _, _, rfl⟩, Lib.hid (HI3.out.more ((Below.refl _ w3).alloc (Nat.le_refl _) _) hown1 hgrow), Lib.hid (by
                rw [HQ.out, pieces_step (by rw [HLEN.out]; exact hlt) HN.out (fun h => ht h.2)]
                rw [show qAfter s.data.toList ⟨xi, xt, xo⟩ kind len = ⟨xi + len, xt + 1, qOper s.data.toList xi kind⟩ from if_pos hk]
                simp)⟩
              case measure => simp [intOf] <;> omega
          · have h7 : decide ((kind : Int) ≤ 6) = false := decide_eq_false (by omega)
            have h7b : decide (kind ≤ 6) = false := decide_eq_false (by omega)
            have hpv : pieceV (qNext s.data.toList xi xo) xi = .agg #[.int .i64 kind, .int .i64 xi, .int .i64 len, .int .i64 0] := by rw [HN.out]; exact if_neg (by simp)
            go_wp2_with fail
            refine (refPiece_any s xi xo (by omega) hlt _).mono ?_
            rintro e w1 ⟨rfl, hb1⟩
            rw [hpv]
            go_upto_region 14 with fail
            have hI3 := HI.out.bl (hb1.alloc hb1.size (.cells #[.int .i64 kind, .int .i64 xi, .int .i64 len, .int .i64 0] 152))
            have hC3 := heap_alloc_new w1 (.cells #[.int .i64 kind, .int .i64 xi, .int .i64 len, .int .i64 0] 152)
            obtain ⟨w3, hw3⟩ : ∃ w3, w1.alloc (.cells #[.int .i64 kind, .int .i64 xi, .int .i64 len, .int .i64 0] 152) = w3 := ⟨_, rfl⟩
            rw [hw3] at hI3 hC3 ⊢
            obtain ⟨g, hg⟩ : ∃ g, w1.heap.size = g := ⟨_, rfl⟩
            rw [hg] at hC3 ⊢
            clear hg hw3 hb1 hpv HI
            have HI3 := Lib.hid hI3
            have HC3 := Lib.hid hC3
            have m0 : w3.cell? ⟨g, 0, none⟩ = some (.int .i64 kind) := by rw [cell_of_row _ _ _ _ _ _ hC3]; rfl
            have m1 : w3.cell? ⟨g, 1, none⟩ = some (.int .i64 xi) := by rw [cell_of_row _ _ _ _ _ _ hC3]; rfl
            have m2 : w3.cell? ⟨g, 2, none⟩ = some (.int .i64 len) := by rw [cell_of_row _ _ _ _ _ _ hC3]; rfl
            have m3 : w3.cell? ⟨g, 3, none⟩ = some (.int .i64 0) := by rw [cell_of_row _ _ _ _ _ _ hC3]; rfl
            have hglt : g < w3.heap.size := (Array.getElem?_eq_some_iff.1 hC3).1
            have hne : (Value.slice va vn vc).ownBlock ≠ some g := by
              rcases row_cells hI3.own hC3 (fun cs fr e => by cases e) with h | h
              · rw [h]; simp
              · exact h
            have hszw : w.heap.size + 1 ≤ w3.heap.size := hI3.lt
            clear hI3 hC3
            go_wp2_with (at_builtin; refine wpList_append_lies _ rfl (.tmp 53) (.tmp 56) 122 rfl (w.heap.size + 1) 127 i0 _ 3 24 Tryz.underlying122 hi0 hz0 hz1 hz2 rfl (by omega) (.slice va vn vc) _ _ (by rfl) (HI3.out.own.alloc _) ⟨w3.heap.size, 0, none⟩ 1 1 (pcCells ⟨kind, xi, len⟩) (by rfl) (by rfl) (World.news_of_block (cs := (pcCells ⟨kind, xi, len⟩).toArray) (t := 127) (fr := (0, 0)) (heap_alloc_new w3 _)) (by simp [pcCells, Value.oneCell']) (by omega) (by unfold maxLen; omega) (by omega) (by rw [World.size_alloc]; omega) (w3.heap.size + 1) (World.size_alloc _ _) ?_; intro gg cap w10 hown1 hgrow hat hgl; have n2 : w10.cell? ⟨g, 2, none⟩ = some (.int .i64 len) := hgrow.cell (a := ⟨g, 2, none⟩) ((Below.heap_alloc_cell w3 _ _ hglt).trans m2) (fun e => hne e.symm))
            go_roundw
            case rel => exact ⟨pre ++ [⟨kind, xi, len⟩], ⟨xi + len, xt, xo⟩, by simpa using l2, by simpa using hx2, by rw [List.length_append]; simp only [List.length_singleton]; omega, rfl, rfl, rfl, ⟨_, _, _, rfl⟩, Lib.hid (HI3.out.more ((Below.refl _ w3).alloc (Nat.le_refl _) _) hown1 hgrow), Lib.hid (by
              rw [HQ.out, pieces_step (by rw [HLEN.out]; exact hlt) HN.out (fun h => hk h.1)]
              rw [show qAfter s.data.toList ⟨xi, xt, xo⟩ kind len = ⟨xi + len, xt, xo⟩ from if_neg hk]
              simp)⟩
            case measure => simp [intOf] <;> omega
        · have e0 : ((er : Int) == 0) = false := by rw [beq_eq_false_iff_ne]; omega
          have e1 : ((er : Int) != 0) = true := by simp; omega
          have hq : qPieces s.data.toList = (pre ++ [], some (er, xi)) := by
            rw [HQ.out, qFrom_err _ ⟨xi, xt, xo⟩ (by rw [HLEN.out]; exact hlt) (by rw [hn]; exact her), hn]
          have HG := Lib.hid (good_err hq)
          clear hq hn
          have hpv : pieceV (qNext s.data.toList xi xo) xi = .agg #[.int .i64 0, .int .i64 0, .int .i64 0, .int .i64 er] := by rw [HN.out]; exact if_pos her
          go_wp2_with fail
          refine (refPiece_any s xi xo (by omega) hlt _).mono ?_
          rintro e w1 ⟨rfl, hb1⟩
          rw [hpv]
          have hI1 := HI.out.bl (hb1.alloc hb1.size (.cells #[.int .i64 0, .int .i64 0, .int .i64 0, .int .i64 er] 152))
          obtain ⟨c0, c1, c2, f0, f1, f2⟩ := hI1.cells
          have HI1 := Lib.hid hI1
          clear hI1 hpv
          go_wp2_with fail
          refine cuts_ret rfl rfl (HI1.out.put _ _ _).1 rfl ?_
          rw [HG.out.1, HG.out.2.1, HG.out.2.2]
          exact ⟨_, rfl, World.ownsRow_nil _ _ _ _, by simp, (HI1.out.put _ _ _).2.1⟩
      · have d1 : decide ((xi : Int) < (s.size : Int)) = false := decide_eq_false (by omega)
        have d1b : decide (xi < s.size) = false := decide_eq_false hlt
        have hq : qPieces s.data.toList = (pre, none) := by
          rw [HQ.out, qFrom_end _ ⟨xi, xt, xo⟩ (by rw [HLEN.out]; show s.size ≤ xi; omega)]; simp
        have HG := Lib.hid (good_ok hq)
        clear hq
        obtain ⟨c0, c1, c2, f0, f1, f2⟩ := HI.out.cells
        go_wp2_with fail
        refine cuts_ret rfl rfl (HI.out.put _ _ _).1 rfl ?_
        rw [HG.out.1, HG.out.2.1, HG.out.2.2]
        exact ⟨_, rfl, (HI.out.put _ _ _).2.2, HI.out.nil, (HI.out.put _ _ _).2.1⟩
end Go.Proofs.YtopbmndjnjnmcaaGreatDoor

namespace Go.Proofs.YtopbmndjnjnmcaaGreatDoor
open Go.RowKit Lx

attribute [local go_sem] Oper.semAt_some

theorem kind_none {l : Bs} (h : l.length = 0) : qKind l = 0 := by
  rw [List.length_eq_zero_iff.1 h]; rfl
theorem kind_next {l : Bs} {er kind len : Nat} (h0 : 0 < l.length) (hb : l.length ≤ 20000) (hn : qNext l 0 false = ⟨er, kind, len⟩) : qKind l = if er ≠ 0 then 0 else if kind < 7 ∧ len = l.length then kind else 0 := by
  have hp : qPieces l = qFrom l ⟨0, 0, false⟩ := if_neg (by omega)
  unfold qKind
  rw [hp]
  by_cases her : er = 0
  · subst her
    rw [qFrom_cons l ⟨0, 0, false⟩ h0 (by rw [hn]) (by rw [hn]; simp), hn, if_neg (by simp)]
    rfl
  · rw [qFrom_err l ⟨0, 0, false⟩ h0 (by rw [hn]; exact her), if_pos her]
    rfl

set_option maxRecDepth 100000 in
set_option maxHeartbeats 8000000 in
/-- **Kind** -/
theorem refKind_any (s : ByteArray) (hm : s.size ≤ maxLen) (w : World) :
    Calls Tryz.prog 115 #[.string s] w fun e W => e = .returned (.int .i64 (qKind s.data.toList : Nat)) ∧ Below w.heap.size w W := by
  unfold maxLen at hm
  have hlen : s.data.toList.length = s.size := by simp
  obtain ⟨k, hk⟩ : ∃ k, qKind s.data.toList = k := ⟨_, rfl⟩
  rw [hk]
  have HK := Lib.hid hk
  have HLEN := Lib.hid hlen
  clear hk hlen
  by_cases h0 : s.size = 0
  · have e0 : ((s.size : Int) == 0) = true := by rw [beq_iff_eq]; omega
    have hr : k = 0 := by rw [← HK.out]; exact kind_none (by rw [HLEN.out]; exact h0)
    subst hr
    go_enter Tryz.func115, Tryz.ntmps115
    go_wp2_with fail
    go_ret
    exact ⟨rfl, Below.refl _ _⟩
  · have e0 : ((s.size : Int) == 0) = false := by rw [beq_eq_false_iff_ne]; omega
    by_cases hb : 20000 < s.size
    · have d : decide ((20000 : Int) < (s.size : Int)) = true := decide_eq_true (by omega)
      have hr : k = 0 := by
        rw [← HK.out]
        have := qKind_small s.data.toList
        rw [HLEN.out] at this
        by_cases h : qKind s.data.toList = 0
        · exact h
        · have := this h; omega
      subst hr
      go_enter Tryz.func115, Tryz.ntmps115
      go_wp2_with fail
      go_ret
      exact ⟨rfl, Below.refl _ _⟩
    · have d : decide ((20000 : Int) < (s.size : Int)) = false := decide_eq_false (by omega)
      obtain ⟨er, kind, len, hn⟩ : ∃ er kind len, qNext s.data.toList 0 false = ⟨er, kind, len⟩ := ⟨_, _, _, rfl⟩
      have hr := kind_next (by rw [HLEN.out]; omega) (by rw [HLEN.out]; omega) hn
      rw [HK.out, HLEN.out] at hr
      have HR := Lib.hid hr
      clear hr HK
      by_cases her : er = 0
      · subst her
        have hpv : pieceV (qNext s.data.toList 0 false) 0 = .agg #[.int .i64 kind, .int .i64 0, .int .i64 len, .int .i64 0] := by rw [hn]; exact if_neg (by simp)
        clear hn
        by_cases h1 : len = s.size
        · have e1 : ((len : Int) != (s.size : Int)) = false := by rw [h1]; simp
          cases e2 : decide ((6 : Int) < (kind : Int))
          · have h2 : kind < 7 := by simp at e2; omega
            have hf : Hid (k = kind) := Lib.hid (by rw [HR.out, if_neg (by simp), if_pos ⟨h2, h1⟩])
            clear h1 h2
            go_enter Tryz.func115, Tryz.ntmps115
            go_wp2_with fail
            refine (refPiece_any s 0 false (by omega) (by omega) _).mono ?_
            rintro e w1 ⟨rfl, hb1⟩
            rw [hpv]
            go_wp2_with fail
            go_ret
            exact ⟨by rw [hf.out]; rfl, hb1.alloc hb1.size _⟩
          · have h2 : ¬ kind < 7 := by simp at e2; omega
            have hf : Hid (k = 0) := Lib.hid (by rw [HR.out, if_neg (by simp), if_neg (fun h => h2 h.1)])
            clear h1 h2
            go_enter Tryz.func115, Tryz.ntmps115
            go_wp2_with fail
            refine (refPiece_any s 0 false (by omega) (by omega) _).mono ?_
            rintro e w1 ⟨rfl, hb1⟩
            rw [hpv]
            go_wp2_with fail
            go_ret
            exact ⟨by rw [hf.out]; rfl, hb1.alloc hb1.size _⟩
        · have e1 : ((len : Int) != (s.size : Int)) = true := by simp; omega
          have hf : Hid (k = 0) := Lib.hid (by rw [HR.out, if_neg (by simp), if_neg (fun h => h1 h.2)])
          clear h1
          go_enter Tryz.func115, Tryz.ntmps115
          go_wp2_with fail
          refine (refPiece_any s 0 false (by omega) (by omega) _).mono ?_
          rintro e w1 ⟨rfl, hb1⟩
          rw [hpv]
          go_wp2_with fail
          go_ret
          exact ⟨by rw [hf.out]; rfl, hb1.alloc hb1.size _⟩
      · have e1 : ((er : Int) != 0) = true := by simp; omega
        have hf : Hid (k = 0) := Lib.hid (by rw [HR.out, if_pos her])
        have hpv : pieceV (qNext s.data.toList 0 false) 0 = .agg #[.int .i64 0, .int .i64 0, .int .i64 0, .int .i64 er] := by rw [hn]; exact if_pos her
        clear hn her
        go_enter Tryz.func115, Tryz.ntmps115
        go_wp2_with fail
        refine (refPiece_any s 0 false (by omega) (by omega) _).mono ?_
        rintro e w1 ⟨rfl, hb1⟩
        rw [hpv]
        go_wp2_with fail
        go_ret
        exact ⟨by rw [hf.out]; rfl, hb1.alloc hb1.size _⟩

set_option maxHeartbeats 4000000 in
/-- **IsName** -/
theorem refIsName_any (s : ByteArray) (hm : s.size ≤ maxLen) (w : World) :
    Calls Tryz.prog 105 #[.string s] w fun e W => e = .returned (.bool (qKind s.data.toList == 1)) ∧ Below w.heap.size w W := by
  have e1 : ((qKind s.data.toList : Int) == 1) = (qKind s.data.toList == 1) := by rw [Bool.eq_iff_iff, beq_iff_eq, beq_iff_eq]; omega
  have E1 := Lib.hid e1
  clear e1
  go_enter Tryz.func105, Tryz.ntmps105
  go_wp2_with fail
  refine (refKind_any s hm _).mono ?_
  rintro e w1 ⟨rfl, hb1⟩
  go_wp2_with fail
  go_ret
  exact ⟨by rw [← E1.out]; rfl, hb1⟩

theorem neg_idx (l : Bs) (c : UInt8) : decide (Lib.indexByte l c < 0) = !decide (0 ≤ Lib.indexByte l c) := by
  rw [Bool.eq_iff_iff]; simp

set_option maxHeartbeats 4000000 in
/-- **IsPlain** -/
theorem refIsPlain_any (s : ByteArray) (hm : s.size ≤ maxLen) (w : World) :
    Calls Tryz.prog 76 #[.string s] w fun e W => e = .returned (.bool ((qKind s.data.toList == 1) && !decide (0 ≤ Lib.indexByte s.data.toList 64))) ∧ Below w.heap.size w W := by
  go_enter Tryz.func76, Tryz.ntmps76
  go_wp2_with fail
  refine (refIsName_any s hm _).mono ?_
  rintro e w1 ⟨rfl, hb1⟩
  cases hq : (qKind s.data.toList == 1)
  · go_wp2_with fail
    go_ret
    exact ⟨by rw [hq]; rfl, hb1⟩
  · go_wp2_with fail
    refine (find_any s 64 hm _).mono ?_
    rintro e w2 ⟨rfl, rfl⟩
    go_wp2_with fail
    go_ret
    exact ⟨by rw [hq, Bool.true_and, ← neg_idx]; rfl, hb1⟩

theorem same_bytes (s : ByteArray) : (⟨s.data.toList.toArray⟩ : ByteArray) = s := by
  cases s; simp
theorem split_no {l : Bs} (h : (qKind l == 1) = false ∨ Lib.indexByte l 64 < 0) : qSplit l = (l, []) := by
  unfold qSplit
  rw [if_neg]
  rintro ⟨h1, h2⟩
  rcases h with h | h
  · rw [h2] at h; cases h
  · unfold Lib.cut at h1
    rw [Lib.index_one, if_neg (by omega)] at h1
    cases h1
theorem split_yes {l : Bs} (h1 : qKind l = 1) (h2 : 0 ≤ Lib.indexByte l 64) : qSplit l = (l.take (Lib.indexByte l 64).toNat, l.drop ((Lib.indexByte l 64).toNat + 1)) := by
  unfold qSplit Lib.cut
  rw [Lib.index_one, if_pos h2, if_pos ⟨rfl, h1⟩]
  rfl

end Go.Proofs.YtopbmndjnjnmcaaGreatDoor

namespace Go.Proofs.YtopbmndjnjnmcaaGreatDoor
open Go.RowKit Lx

attribute [local go_sem] Oper.semAt_some

theorem at_list : (⟨#[64]⟩ : ByteArray).toList = [64] := by rw [whole_list]

set_option maxRecDepth 100000 in
set_option maxHeartbeats 4000000 in
/-- **stringslite.Index**, at the byte 64 -/
theorem indexAt_any (s : ByteArray) (w : World) : Calls Tryz.prog 148 #[.string s, .string ⟨#[64]⟩] w fun e W => e = .returned (.int .i64 (Lib.indexByte s.data.toList 64)) ∧ W = w := by
  cases h : ([64] == s.toList)
  · go_enter Tryz.func148, Tryz.ntmps148
    go_wp2_with fail
    refine (Tryz.stringslite_IndexByte s 64 _).mono ?_
    rintro e w1 ⟨rfl, rfl⟩
    go_wp2_with fail
    go_ret
    exact ⟨rfl, rfl⟩
  · have hr : Hid (Lib.indexByte s.data.toList 64 = 0) := Lib.hid (by
      rw [← whole_list, ← eq_of_beq h]; rfl)
    go_enter Tryz.func148, Tryz.ntmps148
    go_wp2_with fail
    go_ret
    exact ⟨by rw [hr.out]; rfl, rfl⟩
theorem cut_no {l : Bs} (h : Lib.indexByte l 64 < 0) : Lib.cut l [64] = (l, [], false) := by
  unfold Lib.cut
  rw [Lib.index_one, if_neg (by omega)]
theorem cut_yes {l : Bs} {k : Nat} (h : Lib.indexByte l 64 = k) : Lib.cut l [64] = (l.take k, l.drop (k + 1), true) := by
  unfold Lib.cut
  rw [Lib.index_one, h, if_pos (by omega)]
  rfl

end Go.Proofs.YtopbmndjnjnmcaaGreatDoor

namespace Go.Proofs.YtopbmndjnjnmcaaGreatDoor
open Go.RowKit Lx

attribute [local go_sem] Oper.semAt_some

theorem guard51 : Tryz.prog.eqGuardType Tryz.prog.depth 50 = false := by kernel_rfl
theorem held51 : Tryz.prog.stoodInHeld 50 = false := by kernel_rfl
theorem fields51 : Tryz.prog.underlying 50 = some (.struct (Tryz.prog.fieldsOf 50)) := by kernel_rfl
theorem tk_guard (op : BinOp) (x y : Operand) (xs ys : Array Value) (w : World) : (eqGuard op 50 x y (.agg xs) (.agg ys)).run Tryz.prog w = .ok () w := run_eqGuard_agg w op 50 x y xs ys guard51
theorem tk_eql (a b c d : Int) (t : ByteArray) (w : World) : (Go.binOp .eql 50 (.agg #[.int .i64 a, .int .i64 b, .string t, .int .i64 c, .int .i64 d]) (.agg #[.int .i64 a, .int .i64 b, .string t, .int .i64 c, .int .i64 d])).run Tryz.prog w = .ok (.bool true) w := by
  rw [run_eql_struct, run_equalIn_struct w 9999 50 _ _ fields51 held51]
  simp [go_sem]

attribute [local go_sem ↓] pn_neq pn_guard

attribute [local go_sem ↓] tk_eql tk_guard

theorem tksCells_at (s : ByteArray) : ∀ (ps : List Pc) (k : Nat) (p : Pc) (j : Nat), ps[k]? = some p → j < 5 → (tksCells s ps)[k * 5 + j]? = (tkCells s p)[j]?
  | [], k, p, j, h, _ => by simp at h
  | q :: r, 0, p, j, h, hj => by
    simp at h; subst h
    simp only [tksCells, Nat.zero_mul, Nat.zero_add]
    rw [List.getElem?_append_left (by simp [tkCells]; omega)]
  | q :: r, k + 1, p, j, h, hj => by
    simp only [tksCells]
    rw [List.getElem?_append_right (by simp [tkCells]; omega)]
    have : (k + 1) * 5 + j - (tkCells s q).length = k * 5 + j := by simp [tkCells]; omega
    rw [this]
    exact tksCells_at s r k p j (by simpa using h) hj

/-- The cells of a token in a row of tokens. -/
theorem owns_tk {W : World} {base g n cap : Nat} {s : ByteArray} {ps : List Pc} (h : W.ownsRow base 50 5 (.slice (some ⟨g, 0, none⟩) n cap) n (tksCells s ps)) {k : Nat} {p : Pc} (hp : ps[k]? = some p) :
    W.cell? ⟨g, k * 5, none⟩ = some (.int .i64 p.kind) ∧ W.cell? ⟨g, k * 5 + 1, none⟩ = some (.int .i64 (qValue p.kind ((s.data.toList.drop p.at_).take p.len))) ∧ W.cell? ⟨g, k * 5 + 2, none⟩ = some (.string (pcText s p)) ∧ W.cell? ⟨g, k * 5 + 3, none⟩ = some (.int .i64 p.at_) ∧ W.cell? ⟨g, k * 5 + 4, none⟩ = some (.int .i64 0) := by
  obtain ⟨hk, _⟩ := List.getElem?_eq_some_iff.1 hp
  have hl := tksCells_len s ps
  have hl2 := h.1
  have key : ∀ j, j < 5 → W.cell? ⟨g, k * 5 + j, none⟩ = (tkCells s p)[j]? := by
    intro j hj
    have h1 := tksCells_at s ps k p j hp hj
    have h2 := h.cellAt (k * 5 + j) (by omega)
    rw [h2, h1]
  exact ⟨key 0 (by decide), key 1 (by decide), key 2 (by decide), key 3 (by decide), key 4 (by decide)⟩

theorem scan_sub {l : Bs} {k : Nat} {p : Pc} (h : (qScan l)[k]? = some p) : 1 ≤ p.len ∧ p.at_ + p.len ≤ l.length ∧ l.length ≤ 20000 ∧ 1 ≤ p.kind ∧ p.kind ≤ 6 := by
  have hm : p ∈ qScan l := List.mem_of_getElem? h
  unfold qScan at hm
  rw [List.mem_filter] at hm
  obtain ⟨hg, ht⟩ := hm
  unfold isTok at ht
  simp only [decide_eq_true_eq] at ht
  obtain ⟨k', hk'⟩ := List.getElem?_of_mem hg
  obtain ⟨a1, a2, a3, a4⟩ := (qGood_follow l).get hk'
  exact ⟨a1, a2, qGood_small l k' p hk', a3, by omega⟩

theorem scan_length (l : Bs) : (qScan l).length ≤ 20000 := by
  unfold qScan
  exact Nat.le_trans (List.length_filter_le _ _) (qGood_length l)


/-- A slice of tokens, all of whose fields are read. -/
def TkFive (W : World) (v : Value) (s : ByteArray) (ps : List Pc) : Prop :=
  ∃ a c, v = .slice a ps.length c ∧ (ps.length ≤ 20000 ∧ ps.length ≤ c) ∧ ∀ k p, ps[k]? = some p → ∃ g, a = some ⟨g, 0, none⟩ ∧ g < W.heap.size ∧
    W.cell? ⟨g, k * 5, none⟩ = some (.int .i64 p.kind) ∧ W.cell? ⟨g, k * 5 + 1, none⟩ = some (.int .i64 (qValue p.kind ((s.data.toList.drop p.at_).take p.len))) ∧ W.cell? ⟨g, k * 5 + 2, none⟩ = some (.string (pcText s p)) ∧ W.cell? ⟨g, k * 5 + 3, none⟩ = some (.int .i64 p.at_) ∧ W.cell? ⟨g, k * 5 + 4, none⟩ = some (.int .i64 0)
theorem tk_five {W : World} {base n : Nat} {v : Value} {s : ByteArray} {ps : List Pc} (h : W.ownsRow base 50 5 v n (tksCells s ps)) (hm : n ≤ 20000) : TkFive W v s ps := by
  have hl := h.1
  rw [tksCells_len] at hl
  have hn : ps.length = n := by omega
  rcases h.2 with ⟨rfl, h0⟩ | ⟨g, cap, cur, rfl, hg, hgb, hcp, _⟩
  · obtain rfl : ps = [] := List.eq_nil_of_length_eq_zero (by omega)
    exact ⟨none, 0, rfl, ⟨by simp, by simp⟩, fun k p hk => by simp at hk⟩
  · refine ⟨some ⟨g, 0, none⟩, cap, by rw [hn], ⟨by omega, by omega⟩, fun k p hk => ?_⟩
    exact ⟨g, rfl, (Array.getElem?_eq_some_iff.1 hgb).1, owns_tk h hk⟩

set_option maxRecDepth 100000 in
set_option maxHeartbeats 4000000 in
/-- **Equal**, of the same tokens -/
theorem refEqual_any (va vb : Value) (s : ByteArray) (ps : List Pc) (w : World) (ha : TkFive w va s ps) (hb : TkFive w vb s ps) :
    Calls Tryz.prog 27 #[va, vb] w fun e W => e = .returned (.bool true) ∧ Below w.heap.size w W := by
  obtain ⟨aa, ca, rfl, hma, hra⟩ := ha
  obtain ⟨ab, cb, rfl, hmb, hrb⟩ := hb
  have HA := Lib.hid hra
  have HB := Lib.hid hrb
  clear hra hrb
  obtain ⟨n, hn⟩ : ∃ n, ps.length = n := ⟨_, rfl⟩
  rw [hn] at hma hmb ⊢
  have HN := Lib.hid hn
  clear hn
  go_enter Tryz.func27, Tryz.ntmps27
  go_wp2_with fail
  go_loopw [5, 6] (fun o x wr => ∃ k : Nat, k ≤ n ∧ o = .bool true ∧ x = .int .i64 k ∧ Below w.heap.size w wr) (fun _ x _ => n - (intOf x).toNat)
  case atStart => exact ⟨0, by omega, by simp, rfl, Below.refl _ _⟩
  case round =>
    obtain ⟨k, hk, rfl, rfl, hbw⟩ := hrel
    by_cases hlt : k < n
    · obtain ⟨p, hp⟩ : ∃ p, ps[k]? = some p := ⟨_, List.getElem?_eq_getElem (by have := HN.out; omega)⟩
      obtain ⟨ga, rfl, hga, a0, a1, a2, a3, a4⟩ := HA.out k p hp
      obtain ⟨gb, rfl, hgb, b0, b1, b2, b3, b4⟩ := HB.out k p hp
      obtain ⟨q1, hq1⟩ : ∃ q, qValue p.kind ((s.data.toList.drop p.at_).take p.len) = q := ⟨_, rfl⟩
      obtain ⟨q2, hq2⟩ : ∃ q, pcText s p = q := ⟨_, rfl⟩
      rw [hq1] at a1 b1
      rw [hq2] at a2 b2
      have a0 := (hbw.cell (p := ⟨ga, _, none⟩) hga).trans a0
      have a1 := (hbw.cell (p := ⟨ga, _, none⟩) hga).trans a1
      have a2 := (hbw.cell (p := ⟨ga, _, none⟩) hga).trans a2
      have a3 := (hbw.cell (p := ⟨ga, _, none⟩) hga).trans a3
      have a4 := (hbw.cell (p := ⟨ga, _, none⟩) hga).trans a4
      have b0 := (hbw.cell (p := ⟨gb, _, none⟩) hgb).trans b0
      have b1 := (hbw.cell (p := ⟨gb, _, none⟩) hgb).trans b1
      have b2 := (hbw.cell (p := ⟨gb, _, none⟩) hgb).trans b2
      have b3 := (hbw.cell (p := ⟨gb, _, none⟩) hgb).trans b3
      have b4 := (hbw.cell (p := ⟨gb, _, none⟩) hgb).trans b4
      have hk0 : (0 : Int) ≤ (k : Int) := by omega
      have hk1 : (k : Int) < (n : Int) := by omega
      have hd : decide (k < n) = true := by simpa using hlt
      clear hp hq1 hq2
      go_wp2_with fail
      go_quiet (fail)
      go_wp2_with fail
      go_roundw
      case rel => exact ⟨k + 1, by omega, rfl, rfl, below_drewN hbw _⟩
      case measure => simp [intOf]; omega
    · have hd : decide (k < n) = false := by simpa using hlt
      go_wp2_with fail
      go_ret
      exact ⟨rfl, hbw⟩
end Go.Proofs.YtopbmndjnjnmcaaGreatDoor

namespace Go.Proofs.YtopbmndjnjnmcaaGreatDoor
open Go.RowKit Lx

attribute [local go_sem] Oper.semAt_some

/-- What Scan of the reference holds between two rounds. -/
structure ScI (w : World) (s : ByteArray) (pv : Value) (ps : List Pc) (g k : Nat) (v : Value) (W : World) : Prop where
  pcs : W.ownsRow (w.heap.size + 1) 127 3 pv ps.length (pcsCells ps)
  tks : W.ownsRow (w.heap.size + 1) 50 5 v ((ps.take k).filter isTok).length (tksCells s ((ps.take k).filter isTok))
  nil : v = .slice none 0 0 ↔ (ps.take k).filter isTok = []
  cc : W.heap[g]? = some (.cells #[pv, .int .i64 0, .int .i64 0] 124 (0, 0))
  res : W.heap[w.heap.size]? = some (.cells #[.slice none 0 0, .int .i64 0, .int .i64 0] 94 (0, 0))
  bel : Below w.heap.size w W
  gg : w.heap.size < g
section
variable {w W W' W2 : World} {s : ByteArray} {pv v : Value} {ps : List Pc} {g k : Nat}
theorem ScI.lt (h : ScI w s pv ps g k v W) : w.heap.size < W.heap.size := (Array.getElem?_eq_some_iff.1 h.res).1
theorem ScI.glt (h : ScI w s pv ps g k v W) : g < W.heap.size := (Array.getElem?_eq_some_iff.1 h.cc).1
theorem ScI.bl (h : ScI w s pv ps g k v W) (hb : Below W.heap.size W W') : ScI w s pv ps g k v W' :=
  ⟨owns_bl' h.pcs hb, owns_bl' h.tks hb, h.nil, (hb.block _ h.glt).trans h.cc, (hb.block _ h.lt).trans h.res, h.bel.trans (hb.mono h.bel.size), h.gg⟩
theorem ScI.ccell (h : ScI w s pv ps g k v W) : W.cell? ⟨g, 0, none⟩ = some pv ∧ W.cell? ⟨g, 1, none⟩ = some (.int .i64 0) ∧ W.cell? ⟨g, 2, none⟩ = some (.int .i64 0) := by
  refine ⟨by rw [cell_of_row _ _ _ _ _ _ h.cc]; rfl, by rw [cell_of_row _ _ _ _ _ _ h.cc]; rfl, by rw [cell_of_row _ _ _ _ _ _ h.cc]; rfl⟩
theorem ScI.cells (h : ScI w s pv ps g k v W) : W.cell? ⟨w.heap.size, 0, none⟩ = some (.slice none 0 0) ∧ W.cell? ⟨w.heap.size, 1, none⟩ = some (.int .i64 0) ∧ W.cell? ⟨w.heap.size, 2, none⟩ = some (.int .i64 0) ∧
    W.frozen? ⟨w.heap.size, 0, none⟩ = false ∧ W.frozen? ⟨w.heap.size, 1, none⟩ = false ∧ W.frozen? ⟨w.heap.size, 2, none⟩ = false := by
  refine ⟨by rw [cell_of_row _ _ _ _ _ _ h.res]; rfl, by rw [cell_of_row _ _ _ _ _ _ h.res]; rfl, by rw [cell_of_row _ _ _ _ _ _ h.res]; rfl, ?_, ?_, ?_⟩ <;> simp [World.frozen?, h.res]
theorem ScI.skip {p : Pc} (h : ScI w s pv ps g k v W) (hp : ps[k]? = some p) (h7 : isTok p = false) : ScI w s pv ps g (k + 1) v W := by
  have e : (ps.take (k + 1)).filter isTok = (ps.take k).filter isTok := by
    rw [filter_take_succ ps k p hp, if_neg (by simp [h7]), List.append_nil]
  exact ⟨h.pcs, by rw [e]; exact h.tks, by rw [e]; exact h.nil, h.cc, h.res, h.bel, h.gg⟩
theorem ScI.more {p : Pc} {gg cap : Nat} (h : ScI w s pv ps g k v W) (hp : ps[k]? = some p) (h7 : isTok p = true) (hb : Below W.heap.size W W2)
    (hown : W'.ownsRow (w.heap.size + 1) 50 5 (.slice (some ⟨gg, 0, none⟩) (((ps.take k).filter isTok).length + 1) cap) (((ps.take k).filter isTok).length + 1) (tksCells s ((ps.take k).filter isTok) ++ tkCells s p)) (hgrow : W2.grownBy W' v.ownBlock) :
    ScI w s pv ps g (k + 1) (.slice (some ⟨gg, 0, none⟩) (((ps.take k).filter isTok).length + 1) cap) W' := by
  have hl := h.tks.lt
  have h2 := h.bl hb
  have hbb : Below (w.heap.size + 1) W W' := (hb.mono h.lt).grown hgrow (by have := hb.size; have := h.lt; omega) (fun j e => (hl j e).1)
  have e : (ps.take (k + 1)).filter isTok = (ps.take k).filter isTok ++ [p] := by
    rw [filter_take_succ ps k p hp, if_pos h7]
  have hne : v.ownBlock ≠ some g := by
    rcases row_cells h.tks h.cc (fun cs fr e => by cases e) with h | h
    · rw [h]; simp
    · exact h
  refine ⟨h2.pcs.kept hgrow (rows_apart h2.pcs h2.tks (by decide)), ?_, ?_, (hgrow.block g (Nat.lt_of_lt_of_le h.glt hb.size) (fun e => hne e.symm)).trans h2.cc, (hbb.block _ (Nat.lt_succ_self _)).trans h.res, h.bel.trans (hbb.mono (Nat.le_succ _)), h.gg⟩
  · rw [e, List.length_append, tksCells_app]
    simpa [tksCells] using hown
  · rw [e]; simp
/-- The result, in place. -/
theorem ScI.put (h : ScI w s pv ps g k v W) (a b c : Value) :
    (((W.setCell ⟨w.heap.size, 0, none⟩ a).setCell ⟨w.heap.size, 1, none⟩ b).setCell ⟨w.heap.size, 2, none⟩ c).heap[w.heap.size]? = some (.cells #[a, b, c] 94 (0, 0)) ∧
    Below w.heap.size w (((W.setCell ⟨w.heap.size, 0, none⟩ a).setCell ⟨w.heap.size, 1, none⟩ b).setCell ⟨w.heap.size, 2, none⟩ c) ∧
    (((W.setCell ⟨w.heap.size, 0, none⟩ a).setCell ⟨w.heap.size, 1, none⟩ b).setCell ⟨w.heap.size, 2, none⟩ c).ownsRow w.heap.size 50 5 v ((ps.take k).filter isTok).length (tksCells s ((ps.take k).filter isTok)) :=
  ⟨heap_set _ _ 2 _ _ _ _ (heap_set _ _ 1 _ _ _ _ (heap_set _ _ 0 _ _ _ _ h.res)),
   ((h.bel.setCell (p := ⟨w.heap.size, 0, none⟩) (Nat.le_refl _) _).setCell (p := ⟨w.heap.size, 1, none⟩) (Nat.le_refl _) _).setCell (p := ⟨w.heap.size, 2, none⟩) (Nat.le_refl _) _,
   owns_down (ownsRow_setCell_below (ownsRow_setCell_below (ownsRow_setCell_below h.tks (a := ⟨w.heap.size, 0, none⟩) (Nat.lt_succ_self _) _) (a := ⟨w.heap.size, 1, none⟩) (Nat.lt_succ_self _) _) (a := ⟨w.heap.size, 2, none⟩) (Nat.lt_succ_self _) _)⟩
end
/-- The result's cells, as they were made. -/
structure PRes3 (w W : World) : Prop where
  res : W.heap[w.heap.size]? = some (.cells #[.slice none 0 0, .int .i64 0, .int .i64 0] 94 (0, 0))
  bel : Below w.heap.size w W
section
variable {w W W' : World}
theorem PRes3.start : PRes3 w (w.alloc (.cells #[.slice none 0 0, .int .i64 0, .int .i64 0] 94)) := ⟨heap_alloc_new w _, (Below.refl _ w).alloc (Nat.le_refl _) _⟩
theorem PRes3.new (h : PRes3 w W) (o : Obj) : PRes3 w (W.alloc o) :=
  ⟨(((Below.refl _ W).alloc (Nat.le_refl _) o).block _ (Array.getElem?_eq_some_iff.1 h.res).1).trans h.res, h.bel.alloc h.bel.size o⟩
theorem PRes3.bl (h : PRes3 w W) (hb : Below W.heap.size W W') : PRes3 w W' :=
  ⟨(hb.block _ (Array.getElem?_eq_some_iff.1 h.res).1).trans h.res, h.bel.trans (hb.mono h.bel.size)⟩
theorem PRes3.cells (h : PRes3 w W) : W.cell? ⟨w.heap.size, 0, none⟩ = some (.slice none 0 0) ∧ W.cell? ⟨w.heap.size, 1, none⟩ = some (.int .i64 0) ∧ W.cell? ⟨w.heap.size, 2, none⟩ = some (.int .i64 0) ∧
    W.frozen? ⟨w.heap.size, 0, none⟩ = false ∧ W.frozen? ⟨w.heap.size, 1, none⟩ = false ∧ W.frozen? ⟨w.heap.size, 2, none⟩ = false := by
  refine ⟨by rw [cell_of_row _ _ _ _ _ _ h.res]; rfl, by rw [cell_of_row _ _ _ _ _ _ h.res]; rfl, by rw [cell_of_row _ _ _ _ _ _ h.res]; rfl, ?_, ?_, ?_⟩ <;> simp [World.frozen?, h.res]
theorem PRes3.put (h : PRes3 w W) (a b c : Value) :
    (((W.setCell ⟨w.heap.size, 0, none⟩ a).setCell ⟨w.heap.size, 1, none⟩ b).setCell ⟨w.heap.size, 2, none⟩ c).heap[w.heap.size]? = some (.cells #[a, b, c] 94 (0, 0)) ∧
    Below w.heap.size w (((W.setCell ⟨w.heap.size, 0, none⟩ a).setCell ⟨w.heap.size, 1, none⟩ b).setCell ⟨w.heap.size, 2, none⟩ c) :=
  ⟨heap_set _ _ 2 _ _ _ _ (heap_set _ _ 1 _ _ _ _ (heap_set _ _ 0 _ _ _ _ h.res)),
   ((h.bel.setCell (p := ⟨w.heap.size, 0, none⟩) (Nat.le_refl _) _).setCell (p := ⟨w.heap.size, 1, none⟩) (Nat.le_refl _) _).setCell (p := ⟨w.heap.size, 2, none⟩) (Nat.le_refl _) _⟩
end
theorem info34 : (Tryz.prog.info? 94).map (·.size) = some 3 := by kernel_rfl
theorem scan_ret {fn : Func} {tmps : Array Value} {W : World} {g : Nat} {cs : Array Value} {Post : Ending → World → Prop} (hf : fn.results = #[.cell 2 94]) (hp : tmps.getD 2 undef = .pointer (some ⟨g, 0, none⟩)) (hg : W.heap[g]? = some (.cells cs 94 (0, 0))) (hs : cs.size = 3) (h : Post (.returned (.agg cs)) W) :
    bodyPost Tryz.prog fn Post Exit.ret { tmps := tmps, defers := [] } W :=
  bodyPost_ret (results_cell_row hf tmps W g 94 cs (0, 0) _ hp hg Tryz.underlying94 rfl (by rw [hs]; exact info34)) rfl h

theorem qCutAll_er (l : Bs) (n : Nat) : ∀ (x : St) (p : Nat × Nat), (qCutAll l n x).2 = some p → p.1 ≠ 0 := by
  induction n with
  | zero => intro x p h; simp [qCutAll] at h
  | succ n ih =>
    intro x p h
    simp only [qCutAll] at h
    split at h
    · simp at h
    · split at h
      · rename_i h2; simp at h; subst h; exact h2
      · split at h
        · simp at h; subst h; simp
        · exact ih _ p h
theorem qPieces_er (l : Bs) (p : Nat × Nat) (h : (qPieces l).2 = some p) : p.1 ≠ 0 := by
  unfold qPieces at h; split at h
  · simp at h; subst h; simp
  · exact qCutAll_er l _ _ p h
theorem qErr_zero (l : Bs) : qErr l = 0 ↔ (qPieces l).2 = none := by
  unfold qErr
  cases h : (qPieces l).2 with
  | none => simp
  | some p => have := qPieces_er l p h; simpa using this
theorem err_good {l : Bs} (h : qErr l ≠ 0) : qGood l = [] := by
  unfold qGood; rw [if_neg (fun e => h ((qErr_zero l).2 e))]
theorem ok_at {l : Bs} (h : qErr l = 0) : qErrAt l = 0 := by
  unfold qErrAt; rw [(qErr_zero l).1 h]; rfl
theorem next_check0 {l : Bs} {i kind len : Nat} {op : Bool} (h : qNext l i op = ⟨0, kind, len⟩) (hk : kind < 7) : qCheck l i kind len = 0 := by
  unfold qNext at h
  split at h
  · rename_i hc; injection h with h1 _ _; exact absurd h1 hc
  · split at h
    · injection h with _ h2 _; omega
    · split at h
      · injection h with _ h2 _; omega
      · split at h
        · rename_i hc; injection h with h1 _ _; exact absurd h1 hc
        · rename_i hc
          injection h with _ h2 h3
          rw [← h2, ← h3]
          simpa using hc

/-- The integers among the pieces are canonical. -/
theorem good_canon {l : Bs} {k : Nat} {p : Pc} (h : (qGood l)[k]? = some p) (h2 : p.kind = 2) : qCanon ((l.drop p.at_).take p.len) = true := by
  have hs := qGood_small l k p h
  unfold qGood at h
  split at h
  · rename_i hn
    have e : qPieces l = qFrom l ⟨0, 0, false⟩ := if_neg (by omega)
    rw [e] at h hn
    obtain ⟨op, b1, b2, b3, b4⟩ := qFrom_mem l _ ⟨0, 0, false⟩ (Prod.ext rfl hn) k p h
    obtain ⟨er, kind, len, hq⟩ : ∃ er kind len, qNext l p.at_ op = ⟨er, kind, len⟩ := ⟨_, _, _, rfl⟩
    rw [hq] at b2 b3 b4
    simp only at b2 b3 b4
    subst b2 b3 b4
    have hc := next_check0 hq (by omega)
    rw [h2] at hc
    cases hcan : qCanon ((l.drop p.at_).take p.len)
    · rw [qCheck_11 l p.at_ 2 p.len (by rw [hcan]; simp)] at hc; cases hc
    · rfl
  · simp at h

set_option maxRecDepth 100000 in
set_option maxHeartbeats 8000000 in
/-- **Scan** -/
theorem refScan_any (s : ByteArray) (hm : s.size ≤ maxLen) (w : World) :
    Calls Tryz.prog 68 #[.string s] w fun e W => ∃ v, e = .returned (.agg #[v, .int .i64 (qErrAt s.data.toList : Nat), .int .i64 (qErr s.data.toList : Nat)]) ∧
      W.ownsRow w.heap.size 50 5 v (qScan s.data.toList).length (tksCells s (qScan s.data.toList)) ∧ (v = .slice none 0 0 ↔ qScan s.data.toList = []) ∧ Below w.heap.size w W := by
  obtain ⟨i0, hi0, hz0, hz1, hz2⟩ := info_parts info39
  have hlen : s.data.toList.length = s.size := by simp
  have HLEN := Lib.hid hlen
  clear hlen
  obtain ⟨E, hE⟩ : ∃ E, qErr s.data.toList = E := ⟨_, rfl⟩
  obtain ⟨T, hT⟩ : ∃ T, qErrAt s.data.toList = T := ⟨_, rfl⟩
  rw [hE, hT]
  have HE := Lib.hid hE
  have HT := Lib.hid hT
  clear hE hT
  go_enter Tryz.func68, Tryz.ntmps68
  go_wp2_with fail
  refine (refPieces_any s hm _).mono ?_
  rintro e w1 ⟨pv, rfl, hown, hnil, hb1⟩
  rw [HE.out, HT.out]
  have hform : ∃ a n c, pv = .slice a n c ∧ n = (qGood s.data.toList).length := by
    rcases hown.2 with ⟨rfl, h0⟩ | ⟨g, cap, cur, rfl, _⟩
    · exact ⟨_, _, _, rfl, h0.symm⟩
    · exact ⟨_, _, _, rfl, rfl⟩
  obtain ⟨pa, pn, pc, rfl, hpn⟩ := hform
  by_cases hE0 : E = 0
  · have hT0 : T = 0 := by rw [← HT.out]; exact ok_at (by rw [HE.out]; exact hE0)
    subst hE0 hT0 hpn
    have hlen := qGood_length s.data.toList
    have hI0 : ScI w s (.slice pa (qGood s.data.toList).length pc) (qGood s.data.toList) w1.heap.size 0 (.slice none 0 0) (w1.alloc (.cells #[.slice pa (qGood s.data.toList).length pc, .int .i64 0, .int .i64 0] 124)) := by
      have hsz : (w.alloc (.cells #[.slice none 0 0, .int .i64 0, .int .i64 0] 94)).heap.size = w.heap.size + 1 := World.size_alloc _ _
      rw [hsz] at hown
      have hR := ((PRes3.start (w := w)).bl hb1)
      refine ⟨owns_bl' hown ((Below.refl _ w1).alloc (Nat.le_refl _) _), World.ownsRow_nil _ _ _ _, by simp, heap_alloc_new w1 _, (hR.new _).res, (hR.new _).bel, ?_⟩
      exact (Array.getElem?_eq_some_iff.1 hR.res).1
    have HI0 := Lib.hid hI0
    obtain ⟨g, hg⟩ : ∃ g, w1.heap.size = g := ⟨_, rfl⟩
    rw [hg] at HI0
    obtain ⟨n, hn⟩ : ∃ n, (qGood s.data.toList).length = n := ⟨_, rfl⟩
    rw [hn] at hlen HI0 ⊢
    have HNN := Lib.hid hn
    clear hI0 hown hnil hb1 hn
    go_wp2_with fail
    go_loopw [4, 5, 6, 7] (fun v x _ _ wr => ∃ k : Nat, k ≤ n ∧ x = .int .i64 k ∧ (∃ a m c, v = .slice a m c) ∧ Hid (ScI w s (.slice pa n pc) (qGood s.data.toList) g k v wr)) (fun _ x _ _ _ => n - (intOf x).toNat)
    case atStart => exact ⟨0, by omega, rfl, ⟨_, _, _, rfl⟩, HI0⟩
    case round =>
      clear HI0
      obtain ⟨k, hk, rfl, ⟨va, vn, vc, rfl⟩, HI⟩ := hrel
      obtain ⟨m0, m1, m2⟩ := HI.out.ccell
      by_cases hlt : k < n
      · have d1 : decide ((k : Int) < (n : Int)) = true := decide_eq_true (by omega)
        have d1b : decide (k < n) = true := decide_eq_true hlt
        have hk0 : (0 : Int) ≤ (k : Int) := by omega
        have hk1 : (k : Int) < (n : Int) := by omega
        obtain ⟨p, hp⟩ : ∃ p, (qGood s.data.toList)[k]? = some p := ⟨_, List.getElem?_eq_getElem (by rw [HNN.out]; exact hlt)⟩
        have hsm := qGood_small _ k p hp
        obtain ⟨hp1, hp2, hp3, hp4⟩ := (qGood_follow s.data.toList).get hp
        simp only [Array.length_toList, ByteArray.size_data] at hp2 hsm
        have hcan := good_canon hp
        have hown := HI.out.pcs
        obtain ⟨ga, hpa⟩ : ∃ ga, pa = some ⟨ga, 0, none⟩ := by
          rcases hown.2 with ⟨h, h0⟩ | ⟨g, cap, cur, h, _⟩
          · have := HNN.out; omega
          · cases h; exact ⟨g, rfl⟩
        subst hpa
        rw [HNN.out] at hown
        obtain ⟨c0, c1, c2⟩ := owns_pc hown hp
        have HP := Lib.hid hp
        have HCAN := Lib.hid hcan
        clear hp hown hcan
        cases h7 : (decide ((6 : Int) < (p.kind : Int)))
        · have h7' : isTok p = true := by simp [isTok] at h7 ⊢; omega
          have q0 : (0 : Int) ≤ (p.at_ : Int) := by omega
          have q1 : (p.at_ : Int) ≤ (p.at_ : Int) + (p.len : Int) := by omega
          have q2 : (p.at_ : Int) + (p.len : Int) ≤ (s.size : Int) := by omega
          have q3 : IntKind.i64.wrap ((p.at_ : Int) + (p.len : Int)) = (p.at_ : Int) + (p.len : Int) := IntWalk.i64_in _ (by omega)
          go_upto_region 10 with fail
          have hI2 := HI.out.bl ((Below.refl _ wr).alloc (Nat.le_refl _) (.cells #[.int .i64 p.kind, .int .i64 p.at_, .int .i64 p.len] 127))
          have hC2 := heap_alloc_new wr (.cells #[.int .i64 p.kind, .int .i64 p.at_, .int .i64 p.len] 127)
          obtain ⟨w2, hw2⟩ : ∃ w2, wr.alloc (.cells #[.int .i64 p.kind, .int .i64 p.at_, .int .i64 p.len] 127) = w2 := ⟨_, rfl⟩
          rw [hw2] at hI2 hC2 ⊢
          obtain ⟨gp, hgp⟩ : ∃ g, wr.heap.size = g := ⟨_, rfl⟩
          rw [hgp] at hC2 ⊢
          have HI2 := Lib.hid hI2
          have HC2 := Lib.hid hC2
          have n0 : w2.cell? ⟨gp, 0, none⟩ = some (.int .i64 p.kind) := by rw [cell_of_row _ _ _ _ _ _ hC2]; rfl
          have n1 : w2.cell? ⟨gp, 1, none⟩ = some (.int .i64 p.at_) := by rw [cell_of_row _ _ _ _ _ _ hC2]; rfl
          have n2 : w2.cell? ⟨gp, 2, none⟩ = some (.int .i64 p.len) := by rw [cell_of_row _ _ _ _ _ _ hC2]; rfl
          clear hI2 hC2 hw2 hgp HI m0 m1 m2 c0 c1 c2
          go_region_held3 (fun w' => w'.cell? ⟨gp, 0, none⟩ = some (.int .i64 p.kind) ∧ w'.cell? ⟨gp, 1, none⟩ = some (.int .i64 p.at_) ∧ w'.cell? ⟨gp, 2, none⟩ = some (.int .i64 p.len)) (first | go_keep) (fail)
          have htx : s.extract p.at_ ((p.at_ : Int) + (p.len : Int)).toNat = pcText s p := by
            unfold pcText; rw [show ((p.at_ : Int) + (p.len : Int)).toNat = p.at_ + p.len from by omega]
          rw [htx]
          have htl : (pcText s p).data.toList = (s.data.toList.drop p.at_).take p.len := by
            unfold pcText; rw [extract_list, Nat.add_sub_cancel_left]
          have hszt : (pcText s p).size ≤ 20000 := by unfold pcText; rw [ByteArray.size_extract]; omega
          have HTL := Lib.hid htl
          obtain ⟨tx, htx'⟩ : ∃ tx, pcText s p = tx := ⟨_, rfl⟩
          have HTX := Lib.hid htx'
          rw [htx'] at hszt ⊢
          have hI3 := HI2.out.bl (((Below.refl _ w2).alloc (Nat.le_refl _) (.cells #[.int .i64 p.kind, .int .i64 0, .string tx, .int .i64 p.at_, .int .i64 0] 50)).drew)
          have hC3 : ((w2.alloc (.cells #[.int .i64 p.kind, .int .i64 0, .string tx, .int .i64 p.at_, .int .i64 0] 50)).drew).heap[w2.heap.size]? = some (.cells #[.int .i64 p.kind, .int .i64 0, .string tx, .int .i64 p.at_, .int .i64 0] 50 (0, 0)) := heap_alloc_new w2 _
          have hP3 := ((((Below.refl _ w2).alloc (Nat.le_refl _) (.cells #[.int .i64 p.kind, .int .i64 0, .string tx, .int .i64 p.at_, .int .i64 0] 50)).drew).block gp (Array.getElem?_eq_some_iff.1 HC2.out).1).trans HC2.out
          obtain ⟨w3, hw3⟩ : ∃ w3, (w2.alloc (.cells #[.int .i64 p.kind, .int .i64 0, .string tx, .int .i64 p.at_, .int .i64 0] 50)).drew = w3 := ⟨_, rfl⟩
          rw [hw3] at hI3 hC3 hP3 ⊢
          obtain ⟨gt, hgt⟩ : ∃ g, w2.heap.size = g := ⟨_, rfl⟩
          rw [hgt] at hC3 ⊢
          have hgw : g < gt := by rw [← hgt]; exact HI2.out.glt
          have HI3 := Lib.hid hI3
          have HC3 := Lib.hid hC3
          have t1 : w3.cell? ⟨gt, 1, none⟩ = some (.int .i64 0) := by rw [cell_of_row _ _ _ _ _ _ hC3]; rfl
          have t2 : w3.cell? ⟨gt, 2, none⟩ = some (.string tx) := by rw [cell_of_row _ _ _ _ _ _ hC3]; rfl
          have tf : w3.frozen? ⟨gt, 1, none⟩ = false := by simp [World.frozen?, hC3]
          have k0 : w3.cell? ⟨gp, 0, none⟩ = some (.int .i64 p.kind) := by rw [cell_of_row _ _ _ _ _ _ hP3]; rfl
          have hb3 : Below w2.heap.size w2 w3 := by rw [← hw3]; exact ((Below.refl _ w2).alloc (Nat.le_refl _) _).drew
          have HB3 := Lib.hid hb3
          have HGT := Lib.hid hgt
          clear hI3 hC3 hP3 hw3 hgt htx htl htx' HC2 n0 n1 n2 hb3
          go_upto_if 49 with (fail)
          go_cut [] from 49 to 55 (fun wx => Hid (ScI w s (.slice (some ⟨ga, 0, none⟩) n pc) (qGood s.data.toList) g k (.slice va vn vc) wx) ∧ wx.heap[gt]? = some (.cells (tkCells s p).toArray 50 (0, 0)))
          case first =>
            by_cases h2 : p.kind = 2
            · have e2 : ((p.kind : Int) == 2) = true := by rw [beq_iff_eq]; omega
              have hq := HCAN.out h2
              rw [← HTL.out, HTX.out] at hq
              have hv : qValue p.kind ((s.data.toList.drop p.at_).take p.len) = qNum tx.data.toList := by
                rw [← HTX.out, HTL.out]; exact if_pos h2
              have HV := Lib.hid hv
              have HQ := Lib.hid hq
              clear hq hv h2
              rw [e2]
              go_wp2_with fail
              refine (refNumber_any tx _).mono ?_
              rintro e w4 ⟨rfl, hb4⟩
              rw [if_pos HQ.out]
              have hC4 := (hb4.block gt (Array.getElem?_eq_some_iff.1 HC3.out).1).trans HC3.out
              have t1 : w4.cell? ⟨gt, 1, none⟩ = some (.int .i64 0) := by rw [cell_of_row _ _ _ _ _ _ hC4]; rfl
              have tf : w4.frozen? ⟨gt, 1, none⟩ = false := by simp [World.frozen?, hC4]
              have HC4 := Lib.hid hC4
              have hb5 : Below w2.heap.size w2 (w4.setCell ⟨gt, 1, none⟩ (.int .i64 (qNum tx.data.toList))) := (HB3.out.trans (hb4.mono HB3.out.size)).setCell (p := ⟨gt, 1, none⟩) (Nat.le_of_eq HGT.out) _
              have HB5 := Lib.hid hb5
              clear hC4 hb5 hb4
              go_wp2_with fail
              go_meet
              refine ⟨Lib.hid (HI2.out.bl HB5.out), ?_⟩
              have := heap_set _ _ 1 _ _ _ (.int .i64 (qNum tx.data.toList)) HC4.out
              rw [this]
              unfold tkCells; rw [HV.out, HTX.out]; rfl
            · have e2 : ((p.kind : Int) == 2) = false := by rw [beq_eq_false_iff_ne]; omega
              have hv : qValue p.kind ((s.data.toList.drop p.at_).take p.len) = 0 := if_neg h2
              have HV := Lib.hid hv
              clear h2 hv
              rw [e2]
              go_wp2_with fail
              go_meet
              exact ⟨HI3, by rw [HC3.out]; unfold tkCells; rw [HV.out, HTX.out]⟩
          case rest =>
            obtain ⟨HI4, hC4⟩ := hcut
            obtain ⟨qv, hqv⟩ : ∃ q, qValue p.kind ((s.data.toList.drop p.at_).take p.len) = q := ⟨_, rfl⟩
            have htk : tkCells s p = [.int .i64 p.kind, .int .i64 qv, .string tx, .int .i64 p.at_, .int .i64 0] := by unfold tkCells; rw [hqv, HTX.out]
            rw [htk] at hC4
            have HTK := Lib.hid htk
            have u0 : wc.cell? ⟨gt, 0, none⟩ = some (.int .i64 p.kind) := by rw [cell_of_row _ _ _ _ _ _ hC4]; rfl
            have u1 : wc.cell? ⟨gt, 1, none⟩ = some (.int .i64 qv) := by rw [cell_of_row _ _ _ _ _ _ hC4]; rfl
            have u2 : wc.cell? ⟨gt, 2, none⟩ = some (.string tx) := by rw [cell_of_row _ _ _ _ _ _ hC4]; rfl
            have u3 : wc.cell? ⟨gt, 3, none⟩ = some (.int .i64 p.at_) := by rw [cell_of_row _ _ _ _ _ _ hC4]; rfl
            have u4 : wc.cell? ⟨gt, 4, none⟩ = some (.int .i64 0) := by rw [cell_of_row _ _ _ _ _ _ hC4]; rfl
            have hcnt : ((((qGood s.data.toList).take k).filter isTok).length) ≤ 20000 := Nat.le_trans (List.length_filter_le _ _) (by rw [List.length_take]; omega)
            have hszw : w.heap.size + 1 ≤ wc.heap.size := HI4.out.lt
            clear hqv htk hC4 HI3 HC3 HI2 HB3 HCAN t1 t2 tf k0 HGT
            go_wp2_with (at_builtin; refine wpList_append_lies _ rfl (.tmp 57) (.tmp 59) 22 rfl (w.heap.size + 1) 50 i0 _ 5 48 Tryz.underlying22 hi0 hz0 hz1 hz2 rfl (by omega) (.slice va vn vc) _ _ (by rfl) (HI4.out.tks.alloc _) ⟨wc.heap.size, 0, none⟩ 1 1 [.int .i64 p.kind, .int .i64 qv, .string tx, .int .i64 p.at_, .int .i64 0] (by rfl) (by rfl) (World.news_of_block (cs := #[.int .i64 p.kind, .int .i64 qv, .string tx, .int .i64 p.at_, .int .i64 0]) (t := 50) (fr := (0, 0)) (heap_alloc_new wc _)) (by simp [Value.oneCell']) (by omega) (by unfold maxLen; omega) (by omega) (by rw [World.size_alloc]; omega) (wc.heap.size + 1) (World.size_alloc _ _) ?_; intro gg cap w10 hown1 hgrow hat hgl)
            go_roundw
            case rel => exact ⟨k + 1, by omega, rfl, ⟨_, _, _, rfl⟩, Lib.hid (HI4.out.more HP.out h7' ((Below.refl _ wc).alloc (Nat.le_refl _) _) (by rw [HTK.out]; exact hown1) hgrow)⟩
            case measure => simp [intOf] <;> omega
        · have h7' : isTok p = false := by simp [isTok] at h7 ⊢; omega
          go_wp2_with fail
          go_roundw
          case rel => exact ⟨k + 1, by omega, rfl, ⟨_, _, _, rfl⟩, Lib.hid ((HI.out.bl ((Below.refl _ wr).alloc (Nat.le_refl _) _)).skip HP.out h7')⟩
          case measure => simp [intOf] <;> omega
      · have d1 : decide ((k : Int) < (n : Int)) = false := decide_eq_false (by omega)
        have d1b : decide (k < n) = false := decide_eq_false hlt
        have hke : k = (qGood s.data.toList).length := by rw [HNN.out]; omega
        obtain ⟨c0, c1, c2, f0, f1, f2⟩ := HI.out.cells
        have HKE := Lib.hid hke
        clear hke
        go_wp2_with fail
        refine scan_ret rfl rfl (HI.out.put _ _ _).1 rfl ?_
        have hpu := (HI.out.put (.slice va vn vc) (.int .i64 0) (.int .i64 0))
        have hnil := HI.out.nil
        rw [HKE.out, List.take_length] at hpu hnil
        exact ⟨_, rfl, hpu.2.2, hnil, hpu.2.1⟩
  · have e1 : ((E : Int) != 0) = true := by simp; omega
    have hg := err_good (l := s.data.toList) (by rw [HE.out]; exact hE0)
    have hsc : qScan s.data.toList = [] := by unfold qScan; rw [hg]; rfl
    have HSC := Lib.hid hsc
    have hRes : PRes3 w (w1.alloc (.cells #[.slice pa pn pc, .int .i64 T, .int .i64 E] 124)) := ((PRes3.start (w := w)).bl hb1).new _
    obtain ⟨c0, c1, c2, f0, f1, f2⟩ := hRes.cells
    have HR := Lib.hid hRes
    clear hg hsc hRes hown hnil hb1 hpn
    go_wp2_with fail
    refine scan_ret rfl rfl (HR.out.put _ _ _).1 rfl ?_
    rw [HSC.out]
    exact ⟨_, rfl, World.ownsRow_nil _ _ _ _, by simp, (HR.out.put _ _ _).2⟩
end Go.Proofs.YtopbmndjnjnmcaaGreatDoor

