/- Package lex: newCutter and the deferred function of Pieces. -/
import Derived.Recover
import Derived.RecoverIn
import Derived.Laws.Pointers
import Derived.RegionIn
import Derived.BigRegionIn
import Derived.LoopNIn
import Derived.Maps.AppendAt
import Derived.Test.YtdfkkeeohbgmbaaGreatDoorA15
namespace Go.Proofs.YtdfkkeeohbgmbaaGreatDoor
open Go.RowKit Lx

attribute [local go_sem] Oper.semAt_some

theorem newCutter_ok (s : ByteArray) (hs : s.size ≤ 20000) (w : World) :
    Calls Tryz.prog 37 #[.string s] w fun e w' => e = .returned (.pointer (some ⟨w.heap.size, 0, none⟩)) ∧ w' = w.alloc (.cells #[.string s, .int .i64 0, .int .i64 0, .bool false] 89) := by
  go_enter Tryz.func37, Tryz.ntmps37
  go_wp2
  go_ret
  exact ⟨rfl, rfl⟩

theorem newCutter_bad (s : ByteArray) (hs : 20000 < s.size) (hm : s.size ≤ maxLen) (w : World) :
    Calls Tryz.prog 37 #[.string s] w fun e w' => e = refusal 2 0 ∧ Below w.heap.size w w' := by
  unfold maxLen at hm
  have hb := (Below.refl w.heap.size w).alloc (Nat.le_refl _) (.cells #[.string s, .int .i64 0, .int .i64 0, .bool false] 89)
  have hc : CutB (w.alloc (.cells #[.string s, .int .i64 0, .int .i64 0, .bool false] 89)) w.heap.size s 0 0 false := World.alloc_heap_new w _
  have HC := Lib.hid hc.cut
  clear hc
  go_enter Tryz.func37, Tryz.ntmps37
  go_wp2_with fail
  refine (refuse_any s w.heap.size 0 0 false _ _ HC.out).mono ?_
  rintro e w' ⟨rfl, rfl⟩
  go_wp2_with fail
  exact ⟨rfl, rfl, hb⟩

theorem assert_yes (a b : Value) (w : World) : (Instr.typeAssert (.iface 61 (.agg #[a, b])) 20 61 true).run Tryz.prog w = .ok (.tuple #[.agg #[a, b], .bool true]) w := by kernel_rfl
theorem assert_no (w : World) : (Instr.typeAssert .nilIface 20 61 true).run Tryz.prog w = .ok (.tuple #[.agg #[.int .i64 0, .int .i64 0], .bool false]) w := by kernel_rfl

/-- What the deferred function has done with a refusal. -/
def Caught (B1 B2 B3 er i : Nat) (w : World) (e : Ending) (u' : FrameMode) (w' : World) : Prop :=
  e = .returned (.tuple #[]) ∧ u' = .panicking [{ v := .iface 61 (.agg #[.int .i64 er, .int .i64 i]), recovered := true }] ∧ Boxed w' B1 23 (.slice none 0 0) ∧ Boxed w' B2 3 (.int .i64 i) ∧ Boxed w' B3 24 (.int .i64 er) ∧ (∀ B, B ≤ w.heap.size → B ≤ B1 → B ≤ B2 → B ≤ B3 → Below B w w')

set_option maxHeartbeats 2000000 in
theorem catch_bad (B1 B2 B3 : Nat) (v1 v2 v3 : Value) (er i : Nat) (w : World) (h1 : Boxed w B1 23 v1) (h2 : Boxed w B2 3 v2) (h3 : Boxed w B3 24 v3) (h12 : B1 ≠ B2) (h13 : B1 ≠ B3) (h23 : B2 ≠ B3) :
    CallsDIn Fence.wide 1 Tryz.prog 36 #[.pointer (some ⟨B1, 0, none⟩), .pointer (some ⟨B2, 0, none⟩), .pointer (some ⟨B3, 0, none⟩)] (.panicking [{ v := .iface 61 (.agg #[.int .i64 er, .int .i64 i]), recovered := false }]) w (Caught B1 B2 B3 er i w) := by
  have c1 := h1.cell
  have c2 := h2.cell
  have c3 := h3.cell
  have f1 := h1.frozen
  have f2 := h2.frozen
  have f3 := h3.frozen
  have hta := assert_yes (.int .i64 er) (.int .i64 i)
  refine callsDIn_of_wpSIn Tryz.func36 rfl trivial fun c₀ cs hu => ?_
  simp only [Tryz.ntmps36, List.size_toArray, List.length_cons, List.length_nil, Nat.reduceAdd, Nat.reduceSub, Array.replicate_succ, Array.replicate_zero, List.push_toArray, List.append_toArray, List.nil_append, List.cons_append]
  apply wpSIn_seq
  apply wpSIn_region
  simp [wpOpsSIn, go_sem, recoverD, hu, Exit.thenS, hta]
  refine wpSIn_of_wpIn rfl ?_
  have k1 := h1.lt
  have k2 := h2.lt
  have k3 := h3.lt
  gi_wp2
  gi_region
  gi_wp2
  have hq1 := ((h1.set (.slice none 0 0)).other h12 (.int .i64 i)).other h13 (.int .i64 er)
  have hq2 := ((h2.other (Ne.symm h12) (.slice none 0 0)).set (.int .i64 i)).other h23 (.int .i64 er)
  have hq3 := ((h3.other (Ne.symm h13) (.slice none 0 0)).other (Ne.symm h23) (.int .i64 i)).set (.int .i64 er)
  exact ⟨rfl, _, rfl, .tuple #[], by simp [results, Tryz.results36], rfl, rfl, hq1.alloc _, hq2.alloc _, hq3.alloc _, fun B hw hb1 hb2 hb3 =>
    (((((Below.refl B w).setCell (p := ⟨B1, 0, none⟩) hb1 _).setCell (p := ⟨B2, 0, none⟩) hb2 _).setCell (p := ⟨B3, 0, none⟩) hb3 _).alloc (by simp [World.setCell]; exact hw) _).drew⟩

theorem catch_idle (B1 B2 B3 : Nat) (w : World) :
    CallsDIn Fence.wide 1 Tryz.prog 36 #[.pointer (some ⟨B1, 0, none⟩), .pointer (some ⟨B2, 0, none⟩), .pointer (some ⟨B3, 0, none⟩)] .returning w fun e u' w' => e = .returned (.tuple #[]) ∧ u' = .returning ∧ Below w.heap.size w w' := by
  have hta := assert_no
  refine callsDIn_of_wpSIn Tryz.func36 rfl trivial fun c₀ cs hu => ?_
  simp only [Tryz.ntmps36, List.size_toArray, List.length_cons, List.length_nil, Nat.reduceAdd, Nat.reduceSub, Array.replicate_succ, Array.replicate_zero, List.push_toArray, List.append_toArray, List.nil_append, List.cons_append]
  apply wpSIn_seq
  apply wpSIn_region
  simp [wpOpsSIn, go_sem, recoverD, hu, Exit.thenS, hta]
  refine wpSIn_of_wpIn rfl ?_
  gi_wp2
  exact ⟨rfl, .returning, by cases c₀; simp_all, .tuple #[], by simp [results, Tryz.results36], rfl, rfl, (Below.refl _ _).alloc (Nat.le_refl _) _⟩
end Go.Proofs.YtdfkkeeohbgmbaaGreatDoor
