/- Package lex: the deferred function of Update. -/
import Derived.Test.YtdfkkeeohbgmbaaGreatDoorA27
namespace Go.Proofs.YtdfkkeeohbgmbaaGreatDoor
open Go.RowKit Lx

attribute [local go_sem] Oper.semAt_some

/-- Pair2 numbers in a block. -/
def Pair2 (W : World) (B : Nat) (t : TypeId) (a b : Int) : Prop := W.heap[B]? = some (.cells #[.int .i64 a, .int .i64 b] t (0, 0))
section
variable {W W' : World} {B : Nat} {t : TypeId} {a b : Int}
theorem Pair2.lt (h : Pair2 W B t a b) : B < W.heap.size := (Array.getElem?_eq_some_iff.1 h).1
theorem Pair2.kept {row : Option Nat} (h : Pair2 W B t a b) (hg : W.grownBy W' row) (hne : some B ≠ row) : Pair2 W' B t a b := (hg.block B h.lt hne).trans h
theorem Pair2.bl (h : Pair2 W B t a b) (hb : Below W.heap.size W W') : Pair2 W' B t a b := h.kept (grown_bl hb none) (by simp)
theorem Pair2.alloc (h : Pair2 W B t a b) (o : Obj) : Pair2 (W.alloc o) B t a b := h.kept (World.grownBy_alloc W o none) (by simp)
theorem Pair2.other {B' j : Nat} (h : Pair2 W B t a b) (hne : B ≠ B') (u : Value) : Pair2 (W.setCell ⟨B', j, none⟩ u) B t a b := h.kept (grown_set W B' j u) (by simpa using hne)
theorem Pair2.both (h : Pair2 W B t a b) (a' b' : Int) : Pair2 ((W.setCell ⟨B, 0, none⟩ (.int .i64 a')).setCell ⟨B, 1, none⟩ (.int .i64 b')) B t a' b' :=
  heap_set _ B 1 _ _ _ _ (heap_set W B 0 _ _ _ _ h)
theorem bo {v : Value} {B' j : Nat} (hne : B ≠ B') (u : Value) (h : Boxed W B t v) : Boxed (W.setCell ⟨B', j, none⟩ u) B t v := h.kept (grown_set W B' j u) (by simpa using hne)
end

/-- The four results' variables. -/
structure Res4 (B : Nat) (v : Value) (a b i e : Int) (W : World) : Prop where
  r1 : Boxed W (B + 1) 23 v
  r2 : Pair2 W (B + 2) 55 a b
  r3 : Boxed W (B + 3) 3 (.int .i64 i)
  r4 : Boxed W (B + 4) 24 (.int .i64 e)

def put4 (B : Nat) (v : Value) (a b i e : Int) (W : World) : World :=
  ((((W.setCell ⟨B + 1, 0, none⟩ v).setCell ⟨B + 2, 0, none⟩ (.int .i64 a)).setCell ⟨B + 2, 1, none⟩ (.int .i64 b)).setCell ⟨B + 3, 0, none⟩ (.int .i64 i)).setCell ⟨B + 4, 0, none⟩ (.int .i64 e)

section
variable {B : Nat} {v : Value} {a b i e : Int} {W W' : World}
theorem Res4.put (h : Res4 B v a b i e W) (v' : Value) (a' b' i' e' : Int) : Res4 B v' a' b' i' e' (put4 B v' a' b' i' e' W) ∧ Below (B + 1) W (put4 B v' a' b' i' e' W) := by
  obtain ⟨h1, h2, h3, h4⟩ := h
  have g1 := bo (B' := B + 4) (j := 0) (by omega) (.int .i64 e') (bo (B' := B + 3) (j := 0) (by omega) (.int .i64 i') (bo (B' := B + 2) (j := 1) (by omega) (.int .i64 b') (bo (B' := B + 2) (j := 0) (by omega) (.int .i64 a') (h1.set v'))))
  have g2 := (((h2.other (B' := B + 1) (j := 0) (by omega) v').both a' b').other (B' := B + 3) (j := 0) (by omega) (.int .i64 i')).other (B' := B + 4) (j := 0) (by omega) (.int .i64 e')
  have g3 := bo (B' := B + 4) (j := 0) (by omega) (.int .i64 e') ((bo (B' := B + 2) (j := 1) (by omega) (.int .i64 b') (bo (B' := B + 2) (j := 0) (by omega) (.int .i64 a') (bo (B' := B + 1) (j := 0) (by omega) v' h3))).set (.int .i64 i'))
  have g4 := (bo (B' := B + 3) (j := 0) (by omega) (.int .i64 i') (bo (B' := B + 2) (j := 1) (by omega) (.int .i64 b') (bo (B' := B + 2) (j := 0) (by omega) (.int .i64 a') (bo (B' := B + 1) (j := 0) (by omega) v' h4)))).set (.int .i64 e')
  exact ⟨⟨g1, g2, g3, g4⟩, ((((((Below.refl _ W).setCell (p := ⟨B + 1, 0, none⟩) (by simp) _).setCell (p := ⟨B + 2, 0, none⟩) (by simp) _).setCell (p := ⟨B + 2, 1, none⟩) (by simp) _).setCell (p := ⟨B + 3, 0, none⟩) (by simp) _).setCell (p := ⟨B + 4, 0, none⟩) (by simp) _)⟩
theorem Res4.bl (h : Res4 B v a b i e W) (hb : Below W.heap.size W W') : Res4 B v a b i e W' := ⟨Boxed.bl h.r1 hb, h.r2.bl hb, Boxed.bl h.r3 hb, Boxed.bl h.r4 hb⟩
theorem Res4.run (h : Res4 B v a b i e W) (T : Array Value) (t1 : T.getD 6 undef = .pointer (some ⟨B + 1, 0, none⟩)) (t2 : T.getD 7 undef = .pointer (some ⟨B + 2, 0, none⟩)) (t3 : T.getD 8 undef = .pointer (some ⟨B + 3, 0, none⟩)) (t4 : T.getD 9 undef = .pointer (some ⟨B + 4, 0, none⟩)) (hv : ∃ x y z, v = .slice x y z) :
    (results Tryz.f35 T).run Tryz.prog W = .ok (.tuple #[v, .agg #[.int .i64 a, .int .i64 b], .int .i64 i, .int .i64 e]) W := by
  obtain ⟨x, y, z, rfl⟩ := hv
  have c1 := h.r1.cell
  have c3 := h.r3.cell
  have c4 := h.r4.cell
  obtain ⟨d0, d1, _, _⟩ := cells2 h.r2
  rw [Array.getD_eq_getD_getElem?] at t1 t2 t3 t4
  simp [results, Tryz.results35, go_sem, t1, t2, t3, t4, c1, c3, c4, d0, d1]
end

set_option maxHeartbeats 4000000 in
theorem catchU_bad (B : Nat) (v1 : Value) (a b i1 e1 : Int) (er i : Nat) (w : World) (h : Res4 B v1 a b i1 e1 w) :
    CallsDIn Fence.wide 1 Tryz.prog 51 #[.pointer (some ⟨B + 1, 0, none⟩), .pointer (some ⟨B + 2, 0, none⟩), .pointer (some ⟨B + 3, 0, none⟩), .pointer (some ⟨B + 4, 0, none⟩)] (.panicking [{ v := .iface 61 (.agg #[.int .i64 er, .int .i64 i]), recovered := false }]) w fun e u' w' =>
      e = .returned (.tuple #[]) ∧ u' = .panicking [{ v := .iface 61 (.agg #[.int .i64 er, .int .i64 i]), recovered := true }] ∧ Res4 B (.slice none 0 0) 0 0 i er w' ∧ Below (B + 1) w w' := by
  obtain ⟨h1, h2, h3, h4⟩ := h
  have c1 := h1.cell
  have c3 := h3.cell
  have c4 := h4.cell
  have f1 := h1.frozen
  have f3 := h3.frozen
  have f4 := h4.frozen
  obtain ⟨d0, d1, g0, g1⟩ := cells2 h2
  have hta := assert_yes (.int .i64 er) (.int .i64 i)
  refine callsDIn_of_wpSIn Tryz.func51 rfl trivial fun c₀ cs hu => ?_
  simp only [Tryz.ntmps51, List.size_toArray, List.length_cons, List.length_nil, Nat.reduceAdd, Nat.reduceSub, Array.replicate_succ, Array.replicate_zero, List.push_toArray, List.append_toArray, List.nil_append, List.cons_append]
  apply wpSIn_seq
  apply wpSIn_region
  simp [wpOpsSIn, go_sem, recoverD, hu, Exit.thenS, hta]
  refine wpSIn_of_wpIn rfl ?_
  have k1 := h1.lt
  have k2 := h2.lt
  have k3 := h3.lt
  have k4 := h4.lt
  gi_wp2
  gi_region
  gi_wp2
  obtain ⟨g, hb⟩ := Res4.put ⟨h1, h2, h3, h4⟩ (.slice none 0 0) 0 0 i er
  exact ⟨rfl, _, rfl, .tuple #[], by simp [results, Tryz.results51], rfl, rfl, ⟨g.r1.alloc _, g.r2.alloc _, g.r3.alloc _, g.r4.alloc _⟩, (hb.alloc (Nat.le_trans (Nat.le_of_lt k1) hb.size) _).drew⟩

theorem catchU_idle (p1 p2 p3 p4 : Value) (w : World) :
    CallsDIn Fence.wide 1 Tryz.prog 51 #[p1, p2, p3, p4] .returning w fun e u' w' => e = .returned (.tuple #[]) ∧ u' = .returning ∧ Below w.heap.size w w' := by
  have hta := assert_no
  refine callsDIn_of_wpSIn Tryz.func51 rfl trivial fun c₀ cs hu => ?_
  simp only [Tryz.ntmps51, List.size_toArray, List.length_cons, List.length_nil, Nat.reduceAdd, Nat.reduceSub, Array.replicate_succ, Array.replicate_zero, List.push_toArray, List.append_toArray, List.nil_append, List.cons_append]
  apply wpSIn_seq
  apply wpSIn_region
  simp [wpOpsSIn, go_sem, recoverD, hu, Exit.thenS, hta]
  refine wpSIn_of_wpIn rfl ?_
  gi_wp2
  exact ⟨rfl, .returning, by cases c₀; simp_all, .tuple #[], by simp [results, Tryz.results51], rfl, rfl, (Below.refl _ _).alloc (Nat.le_refl _) _⟩
end Go.Proofs.YtdfkkeeohbgmbaaGreatDoor
