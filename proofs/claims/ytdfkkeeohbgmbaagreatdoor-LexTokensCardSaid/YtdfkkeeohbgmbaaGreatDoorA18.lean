/- Package lex: Pieces of any text. -/
import Derived.Test.YtdfkkeeohbgmbaaGreatDoorA17
namespace Go.Proofs.YtdfkkeeohbgmbaaGreatDoor
open Go.RowKit Lx

attribute [local go_sem] Oper.semAt_some

set_option maxRecDepth 100000 in
set_option maxHeartbeats 4000000 in
theorem pieces_big (s : ByteArray) (hs : 20000 < s.size) (hm : s.size ≤ maxLen) (w : World) :
    CallsIn Fence.wide 2 Tryz.prog 8 #[.string s] w fun e W' => PiecesEnd s.data.toList w.heap.size e W' ∧ Below w.heap.size w W' := by
  have HQP : Hid (qPieces s.data.toList = ([], some (2, 0))) := Lib.hid (if_pos (by simpa using hs))
  refine callsIn_of_wp_marks Tryz.func8 rfl trivial ?_ rfl
  simp only [Tryz.ntmps8, List.size_toArray, List.length_cons, List.length_nil, Nat.reduceAdd, Nat.reduceSub, Array.replicate_succ, Array.replicate_zero, List.push_toArray, List.append_toArray, List.nil_append, List.cons_append]
  have hmf : ∀ (fn : Fn) (first cap : Array Value) (w : World), (Instr.makeFunc fn first cap).run Tryz.prog w = .ok (.func fn first cap) w := fun _ _ _ _ => rfl
  gi_wp2_with fail
  refine ⟨trivial, (callsIn_wide.2 (newCutter_bad s hs hm _)).mono ?_⟩
  rintro e W1 ⟨rfl, hb1⟩
  have bO := Boxed.new w 23 (.slice none 0 0)
  have bA := Boxed.new (w.alloc (.cells #[.slice none 0 0] 23)) 3 (.int .i64 0)
  have bE := Boxed.new ((w.alloc (.cells #[.slice none 0 0] 23)).alloc (.cells #[.int .i64 0] 3)) 24 (.int .i64 0)
  simp only [World.size_alloc] at bA bE
  have k1 := Boxed.bl ((bO.alloc (.cells #[.int .i64 0] 3)).alloc (.cells #[.int .i64 0] 24)) hb1
  have k2 := Boxed.bl (bA.alloc (.cells #[.int .i64 0] 24)) hb1
  have k3 := Boxed.bl bE hb1
  have hb : Below w.heap.size w W1 := bt ((((Below.refl _ w).alloc (Nat.le_refl _) _).alloc (by simp) _).alloc (by simp; try omega) _) hb1
  clear bO bA bE hb1
  unfold refusal
  gi_wp2_with fail
  refine ⟨by simp, .inr ⟨fun _ => by omega, _, _, 36, #[.pointer (some ⟨w.heap.size, 0, none⟩), .pointer (some ⟨w.heap.size + 1, 0, none⟩), .pointer (some ⟨w.heap.size + 1 + 1, 0, none⟩)], rfl, by simp [invoke, go_sem], fun _ _ => trivial,
    (catch_bad w.heap.size (w.heap.size + 1) (w.heap.size + 1 + 1) _ _ _ 2 0 _ k1 k2 k3 (by omega) (by omega) (by omega)).mono ?_⟩⟩
  rintro e u' W2 ⟨rfl, rfl, q1, q2, q3, hb2⟩
  refine ⟨_, res15 w.heap.size _ W2 none 0 0 ((0 : Nat) : Int) ((2 : Nat) : Int) rfl rfl rfl q1 q2 q3, ?_, hb.trans (hb2 w.heap.size hb.size (by omega) (by omega) (by omega))⟩
  unfold PiecesEnd
  rw [HQP.out]
  exact ⟨_, rfl, fun h => (by cases h), fun _ => rfl⟩

/-- **Pieces**, at every text. -/
theorem pieces_any (s : ByteArray) (hm : s.size ≤ maxLen) (w : World) (he : Env w) :
    Calls Tryz.prog 8 #[.string s] w fun e W' => PiecesEnd s.data.toList w.heap.size e W' ∧ Below w.heap.size w W' := by
  refine (callsIn_wide (n := 2)).1 ?_
  by_cases hs : s.size ≤ 20000
  · exact pieces_in s hs w he
  · exact pieces_big s (by omega) hm w
end Go.Proofs.YtdfkkeeohbgmbaaGreatDoor
