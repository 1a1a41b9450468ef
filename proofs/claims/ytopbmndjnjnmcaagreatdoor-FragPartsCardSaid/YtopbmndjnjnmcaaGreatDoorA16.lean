/- Package lex: newCutter and the deferred function of Pieces. -/
import Derived.Recover
import Derived.RecoverIn
import Derived.Laws.Pointers
import Derived.RegionIn
import Derived.BigRegionIn
import Derived.LoopNIn
import Derived.Maps.AppendAt
import Derived.Test.YtopbmndjnjnmcaaGreatDoorA15
namespace Go.Proofs.YtopbmndjnjnmcaaGreatDoor
open Go.RowKit Lx

attribute [local go_sem] Oper.semAt_some

theorem newCutter_ok (s : ByteArray) (hs : s.size ≤ 20000) (w : World) :
    Calls Tryz.prog 128 #[.string s] w fun e w' => e = .returned (.pointer (some ⟨w.heap.size, 0, none⟩)) ∧ w' = w.alloc (.cells #[.string s, .int .i64 0, .int .i64 0, .bool false] 179) := by
  go_enter Tryz.func128, Tryz.ntmps128
  go_wp2
  go_ret
  exact ⟨rfl, rfl⟩

theorem newCutter_bad (s : ByteArray) (hs : 20000 < s.size) (hm : s.size ≤ maxLen) (w : World) :
    Calls Tryz.prog 128 #[.string s] w fun e w' => e = refusal 2 0 ∧ Below w.heap.size w w' := by
  unfold maxLen at hm
  have hb := (Below.refl w.heap.size w).alloc (Nat.le_refl _) (.cells #[.string s, .int .i64 0, .int .i64 0, .bool false] 179)
  have hc : CutB (w.alloc (.cells #[.string s, .int .i64 0, .int .i64 0, .bool false] 179)) w.heap.size s 0 0 false := World.alloc_heap_new w _
  have HC := Lib.hid hc.cut
  clear hc
  go_enter Tryz.func128, Tryz.ntmps128
  go_wp2_with fail
  refine (refuse_any s w.heap.size 0 0 false _ _ HC.out).mono ?_
  rintro e w' ⟨rfl, rfl⟩
  go_wp2_with fail
  exact ⟨rfl, rfl, hb⟩

theorem assert_yes (a b : Value) (w : World) : (Instr.typeAssert (.iface 161 (.agg #[a, b])) 20 161 true).run Tryz.prog w = .ok (.tuple #[.agg #[a, b], .bool true]) w := by kernel_rfl
theorem assert_no (w : World) : (Instr.typeAssert .nilIface 20 161 true).run Tryz.prog w = .ok (.tuple #[.agg #[.int .i64 0, .int .i64 0], .bool false]) w := by kernel_rfl

/-- What the deferred function has done with a refusal. -/
def Caught (B1 B2 B3 er i : Nat) (w : World) (e : Ending) (u' : FrameMode) (w' : World) : Prop :=
  e = .returned (.tuple #[]) ∧ u' = .panicking [{ v := .iface 161 (.agg #[.int .i64 er, .int .i64 i]), recovered := true }] ∧ Boxed w' B1 122 (.slice none 0 0) ∧ Boxed w' B2 3 (.int .i64 i) ∧ Boxed w' B3 24 (.int .i64 er) ∧ (∀ B, B ≤ w.heap.size → B ≤ B1 → B ≤ B2 → B ≤ B3 → Below B w w')

end Go.Proofs.YtopbmndjnjnmcaaGreatDoor
