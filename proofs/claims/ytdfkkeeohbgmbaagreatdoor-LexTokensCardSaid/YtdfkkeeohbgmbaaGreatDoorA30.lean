/- Package lex: the chapter's examples, reckoned. -/
import Derived.Test.YtdfkkeeohbgmbaaGreatDoorA29
import Derived.Laws.StructEq
/- The chapter's examples, reckoned. -/
namespace Go.Proofs.YtdfkkeeohbgmbaaGreatDoor
open Go.RowKit Lx

def ex1 : ByteArray := ⟨#[100, 101, 102, 105, 110, 101, 32, 99, 108, 97, 115, 115, 32, 60, 112, 111, 105, 110, 116, 62, 32, 40, 60, 111, 98, 106, 101, 99, 116, 62, 41, 32, 101, 110, 100, 59]⟩
def ex2 : ByteArray := ⟨#[102, 40, 97, 32, 45, 32, 45, 51, 44, 32, 98, 45, 50, 41]⟩
def ex3 : ByteArray := ⟨#[35, 116, 114, 117, 101]⟩
def ex4 : ByteArray := ⟨#[48, 48, 55]⟩
def ex5 : ByteArray := ⟨#[97, 32, 47, 42, 32, 98, 32, 42, 47, 32, 99]⟩
def ex6 : ByteArray := ⟨#[97, 32, 98, 32, 99]⟩

theorem ex1_scan : qScan ex1.data.toList = [⟨1, 0, 6⟩, ⟨1, 7, 5⟩, ⟨1, 13, 7⟩, ⟨5, 21, 1⟩, ⟨1, 22, 8⟩, ⟨5, 30, 1⟩, ⟨1, 32, 3⟩, ⟨5, 35, 1⟩] := by decide +kernel
theorem ex1_err : qErr ex1.data.toList = 0 := by decide +kernel
theorem ex2_scan : qScan ex2.data.toList = [⟨1, 0, 1⟩, ⟨5, 1, 1⟩, ⟨1, 2, 1⟩, ⟨5, 4, 1⟩, ⟨2, 6, 2⟩, ⟨5, 8, 1⟩, ⟨1, 10, 3⟩, ⟨5, 13, 1⟩] := by decide +kernel
theorem ex2_err : qErr ex2.data.toList = 0 := by decide +kernel
theorem ex2_num : qValue 2 ((ex2.data.toList.drop 6).take 2) = -3 := by decide +kernel
theorem ex3_err : qErr ex3.data.toList = 12 ∧ qErrAt ex3.data.toList = 0 := by decide +kernel
theorem ex4_err : qErr ex4.data.toList = 11 := by decide +kernel
theorem ex5_good : qGood ex5.data.toList = [⟨1, 0, 1⟩, ⟨7, 1, 1⟩, ⟨8, 2, 7⟩, ⟨7, 9, 1⟩, ⟨1, 10, 1⟩] := by decide +kernel
theorem ex5_err : qErr ex5.data.toList = 0 := by decide +kernel
theorem ex6_pieces : qPieces ex6.data.toList = ([⟨1, 0, 1⟩, ⟨7, 1, 1⟩, ⟨1, 2, 1⟩, ⟨7, 3, 1⟩, ⟨1, 4, 1⟩], none) := by decide +kernel
theorem ex7_pieces : qPieces [97, 32, 100, 100, 32, 99] = ([⟨1, 0, 1⟩, ⟨7, 1, 1⟩, ⟨1, 2, 2⟩, ⟨7, 4, 1⟩, ⟨1, 5, 1⟩], none) := by decide +kernel
def ex6n : List Pn := [⟨1, 0, 1⟩, ⟨7, 1, 1⟩, ⟨1, 2, 1⟩, ⟨7, 3, 1⟩, ⟨1, 4, 1⟩]
theorem ex7_kept : qKept ex6n [⟨1, 0, 1⟩, ⟨7, 1, 1⟩, ⟨1, 2, 2⟩, ⟨7, 4, 1⟩, ⟨1, 5, 1⟩] 1 = (2, 2) := by decide +kernel
theorem ex8_split : qSplit [97, 114, 101, 97, 64, 115, 104, 97, 112, 101, 115] = ([97, 114, 101, 97], [115, 104, 97, 112, 101, 115]) := by decide +kernel
theorem ex9_kind : qKind [120, 58] = 3 := by decide +kernel
theorem ex10_plain : ((qKind [101, 109, 112, 116, 121, 63] == 1) && !decide (0 ≤ Lib.indexByte [101, 109, 112, 116, 121, 63] 64)) = true := by decide +kernel
theorem ex11_plain : ((qKind [120, 64, 108] == 1) && !decide (0 ≤ Lib.indexByte [120, 64, 108] 64)) = false := by decide +kernel
theorem ex1_text : pcText ex1 ⟨1, 13, 7⟩ = ⟨#[60, 112, 111, 105, 110, 116, 62]⟩ := by decide +kernel
theorem ex2_text : pcText ex2 ⟨1, 10, 3⟩ = ⟨#[98, 45, 50]⟩ := by decide +kernel

theorem guard53 : Tryz.prog.eqGuardType Tryz.prog.depth 55 = false := by kernel_rfl
theorem held53 : Tryz.prog.stoodInHeld 55 = false := by kernel_rfl
theorem fields53 : Tryz.prog.underlying 55 = some (.struct (Tryz.prog.fieldsOf 55)) := by kernel_rfl
theorem k_guard (op : BinOp) (x y : Operand) (xs ys : Array Value) (w : World) : (eqGuard op 55 x y (.agg xs) (.agg ys)).run Tryz.prog w = .ok () w := run_eqGuard_agg w op 55 x y xs ys guard53
theorem k_eql (a b a' b' : Int) (w : World) : (Go.binOp .eql 55 (.agg #[.int .i64 a, .int .i64 b]) (.agg #[.int .i64 a', .int .i64 b'])).run Tryz.prog w = .ok (.bool (decide (a = a' ∧ b = b'))) w := by
  rw [run_eql_struct, run_equalIn_struct w 9999 55 _ _ fields53 held53]
  by_cases h1 : a = a' <;> by_cases h2 : b = b' <;> simp [go_sem, h1, h2]

/-- What Update answers at the chapter's example. -/
theorem ex6_up {base : Nat} {e : Ending} {W : World} (h : UpEnd ex6 ⟨#[100, 100]⟩ 2 1 ex6n base e W) : ∃ v, (∃ g cap, v = .slice (some ⟨g, 0, none⟩) 5 cap) ∧ e = .returned (.tuple #[v, .agg #[.int .i64 2, .int .i64 2], .int .i64 0, .int .i64 0]) := by
  have hp : (qPieces ex6.data.toList).1.map Pc.n = ex6n := by rw [ex6_pieces]; rfl
  have hn : (qPieces ex6.data.toList).2 = none := by rw [ex6_pieces]
  rcases h with ⟨h, _⟩ | ⟨_, _, ⟨h, _⟩ | ⟨x', d', hx, hd, _, _, h⟩⟩
  · exact absurd ⟨hn, hp.symm⟩ h
  · exact absurd (show Fits ex6 2 1 by unfold Fits; decide +kernel) h
  · obtain rfl : x' = 2 := by omega
    obtain rfl : d' = 1 := by omega
    have hl : (spliced ex6 2 1 ⟨#[100, 100]⟩).data.toList = [97, 32, 100, 100, 32, 99] := by rw [spliced_list]; decide +kernel
    rw [hl, ex7_pieces] at h
    rcases h with ⟨_, v, hr, _, he⟩ | ⟨er, i, h, _⟩
    · obtain ⟨g, cap, hv⟩ := ownsRow_succ hr
      refine ⟨v, ⟨g, cap, hv⟩, ?_⟩
      rw [he]
      have hk : qKept ex6n (([⟨1, 0, 1⟩, ⟨7, 1, 1⟩, ⟨1, 2, 2⟩, ⟨7, 4, 1⟩, ⟨1, 5, 1⟩] : List Pc).map Pc.n) (((⟨#[100, 100]⟩ : ByteArray).size : Int) - (1 : Nat)) = (2, 2) := ex7_kept
      rw [hk]; rfl
    · simp at h
end Go.Proofs.YtdfkkeeohbgmbaaGreatDoor
