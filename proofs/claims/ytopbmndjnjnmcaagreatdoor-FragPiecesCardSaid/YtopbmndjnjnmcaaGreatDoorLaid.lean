/- What the rows' lists of variables give the walks, and a world that meets them. -/
import Derived.Test.YtopbmndjnjnmcaaGreatDoorA24
import Derived.Test.YtopbmndjnjnmcaaGreatDoorCards
import Derived.Test.YtopbmndjnjnmcaaGreatDoorTie
import Derived.WalkKit
import Derived.ProofKit
import Derived.OpenShut
import Derived.Deep.DeepHandedRow
import Derived.Deep.DeepWitnessRowRef
import Derived.Lib.LaidTab
import Derived.LaidMore
import Derived.Stop.LaidErr
namespace Go.Proofs.YtopbmndjnjnmcaaGreatDoor
open Go.ChangeShapes Go.WideShapes Go.ChangeAt Go.RowKit

theorem own : ownKnob Tryz.prog.godebug = none := by kernel_rfl
theorem g1 : Tryz.prog.globalNamed "internal/strconv.uint64pow10" = some 3 := by kernel_rfl
theorem g2 : Tryz.prog.globalNamed "strconv.ErrSyntax" = some 1 := by kernel_rfl
theorem g3 : Tryz.prog.globalNamed "strconv.ErrRange" = some 2 := by kernel_rfl
theorem g5 : Tryz.prog.globalNamed "math/bits.deBruijn64tab" = some 5 := by kernel_rfl
theorem gt1 : (Tryz.prog.globals[3]?).map (·.type) = some 238 := by kernel_rfl
theorem gt2 : (Tryz.prog.globals[1]?).map (·.type) = some 144 := by kernel_rfl
theorem gt3 : (Tryz.prog.globals[2]?).map (·.type) = some 144 := by kernel_rfl
theorem cells238 : Tryz.prog.cellsOf 238 = 20 := by kernel_rfl
theorem cells217 : Tryz.prog.cellsOf 217 = 1 := by kernel_rfl
theorem cells230 : Tryz.prog.cellsOf 230 = 1 := by kernel_rfl
theorem cells9 : Tryz.prog.cellsOf 9 = 1 := by kernel_rfl
theorem star : "*" ++ "errors.errorString" = "*errors.errorString" := by decide
theorem only228 (u : TypeId) (h : Tryz.prog.typeName? 3 u = some "*errors.errorString") : u = 228 :=
  typeName_ptr_named (nm := "errors.errorString") (by rw [star]; kernel_rfl) (by kernel_rfl) (by decide) u (by rw [star]; exact h)

def laid5 : List (String × DataW Unit) := [("math/bits.deBruijn32tab", Rows.laid_math_bits_deBruijn32tab), ("math/bits.deBruijn64tab", Rows.laid_math_bits_deBruijn64tab), ("internal/strconv.uint64pow10", Rows.laid_internal_strconv_uint64pow10), ("strconv.ErrRange", Rows.laid_strconv_ErrRange), ("strconv.ErrSyntax", Rows.laid_strconv_ErrSyntax)]

theorem env_of_laid {W : World} (hL : laidMetH Tryz.prog laid5 W) (hs : W.ShapedOpen Tryz.prog) : Env W := by
  rw [MakeChecks.laidMetH_plain _ _ _ (by kernel_rfl)] at hL
  have h3 := hL.tail.tail
  have h4 := h3.tail
  have h5 := h4.tail
  have htab : Lib.TabIs Tryz.prog W "internal/strconv.uint64pow10" .u64 Lib.pow10Tab := by
    refine Lib.tabIs_of_head (rest := [("strconv.ErrRange", Rows.laid_strconv_ErrRange), ("strconv.ErrSyntax", Rows.laid_strconv_ErrSyntax)]) g1 gt1 Tryz.underlying238 Tryz.underlying217 cells217 cells238 h3
  obtain ⟨a, s, hv, _⟩ := laid_sentinel h4 g3 gt3 Tryz.underlying144 only228 Tryz.underlying228 Tryz.underlying230 rfl rfl Tryz.underlying9 cells230 cells9
  obtain ⟨a2, s2, hv2, _⟩ := laid_sentinel h5 g2 gt2 Tryz.underlying144 only228 Tryz.underlying228 Tryz.underlying230 rfl rfl Tryz.underlying9 cells230 cells9
  refine ⟨Tryz.laysM219.s1_3 W hs, ?_, ?_, htab, ?_⟩
  · have := World.var?_cell g2 hv2 0
    exact ⟨_, _, by simpa using this⟩
  · have := World.var?_cell g3 hv 0
    exact ⟨_, _, by simpa using this⟩
  · obtain ⟨ps, ⟨g0, t0, cs0, f0, p0, q0, hg0, ht0, hv0, _⟩, _⟩ := hL.tail
    obtain rfl := Option.some.inj (g5.symm.trans hg0)
    have : 5 < W.heap.size := by
      rcases Nat.lt_or_ge 5 W.heap.size with h' | h'
      · exact h'
      · exfalso; unfold World.var? at hv0; rw [g5] at hv0; simp [Array.getElem?_eq_none h'] at hv0
    omega

/-- The door's own world meets the rows' lists, whatever the arguments. -/
theorem door_met (os : Os) (args : Array Value) : laidMet Tryz.prog laid5 ((World.doorLaid Tryz.prog 4000 os).forCall (fun _ _ => 0) ⟨#[], args, []⟩).memory :=
  laidMet_of_run' 8 (by kernel_rfl) (by kernel_rfl)
end Go.Proofs.YtopbmndjnjnmcaaGreatDoor
