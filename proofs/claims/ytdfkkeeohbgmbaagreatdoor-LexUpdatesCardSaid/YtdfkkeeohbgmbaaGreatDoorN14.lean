/- The walk of LexUpdates. -/
import Derived.Test.YtdfkkeeohbgmbaaGreatDoorN13
import Derived.Test.YtdfkkeeohbgmbaaGreatDoorA31
namespace Go.Proofs.YtdfkkeeohbgmbaaGreatDoor
open Go.RowKit Lx

attribute [local go_sem] Oper.semAt_some

theorem guard55 : Tryz.prog.eqGuardType Tryz.prog.depth 55 = false := by kernel_rfl
theorem held55 : Tryz.prog.stoodInHeld 55 = false := by kernel_rfl
theorem fields55 : Tryz.prog.underlying 55 = some (.struct (Tryz.prog.fieldsOf 55)) := by kernel_rfl
theorem kp_guard (op : BinOp) (x y : Operand) (xs ys : Array Value) (w : World) : (eqGuard op 55 x y (.agg xs) (.agg ys)).run Tryz.prog w = .ok () w := run_eqGuard_agg w op 55 x y xs ys guard55
theorem kp_eql (a b : Int) (w : World) : (Go.binOp .eql 55 (.agg #[.int .i64 a, .int .i64 b]) (.agg #[.int .i64 a, .int .i64 b])).run Tryz.prog w = .ok (.bool true) w := by
  rw [run_eql_struct, run_equalIn_struct w 9999 55 _ _ fields55 held55]
  simp [go_sem]
attribute [local go_sem ↓] kp_eql kp_guard

theorem up_form {s ins : ByteArray} {x d : Int} {ps : List Pn} {b : Nat} {e : Ending} {W : World} (h : UpEnd s ins x d ps b e W) : ∃ a n c, ∃ i j at_ er : Int, e = .returned (.tuple #[.slice a n c, .agg #[.int .i64 i, .int .i64 j], .int .i64 at_, .int .i64 er]) := by
  rcases h with ⟨_, rfl⟩ | ⟨_, _, h | ⟨x', d', _, _, _, _, h | ⟨er, i, _, rfl⟩⟩⟩
  · exact ⟨_, _, _, _, _, _, _, rfl⟩
  · obtain ⟨_, rfl⟩ := h; exact ⟨_, _, _, _, _, _, _, rfl⟩
  · obtain ⟨_, v, ho, _, rfl⟩ := h
    obtain ⟨a, n, c, rfl⟩ := ownsRow_slice ho
    exact ⟨_, _, _, _, _, _, _, rfl⟩
  · exact ⟨_, _, _, _, _, _, _, rfl⟩
theorem rup_form {s ins : ByteArray} {x d : Int} {ps : List Pn} {b : Nat} {e : Ending} {W : World} (h : RUpEnd s ins x d ps b e W) : ∃ a n c, ∃ i j at_ er : Int, e = .returned (.agg #[.slice a n c, .int .i64 i, .int .i64 j, .int .i64 at_, .int .i64 er]) := by
  rcases h with ⟨_, rfl⟩ | ⟨_, _, h | ⟨x', d', _, _, _, _, h | ⟨er, i, _, rfl⟩⟩⟩
  · exact ⟨_, _, _, _, _, _, _, rfl⟩
  · obtain ⟨_, rfl⟩ := h; exact ⟨_, _, _, _, _, _, _, rfl⟩
  · obtain ⟨_, v, ho, rfl⟩ := h
    obtain ⟨a, n, c, rfl⟩ := ownsRow_slice ho
    exact ⟨_, _, _, _, _, _, _, rfl⟩
  · exact ⟨_, _, _, _, _, _, _, rfl⟩
theorem fits_nat {s : ByteArray} {x' d' : Nat} (h1 : x' ≤ s.size) (h2 : d' ≤ s.size - x') : Fits s (x' : Int) (d' : Int) := ⟨by omega, by omega, by omega, by omega⟩
/-- Update and its specification return the same. -/
theorem up_same {s ins : ByteArray} {x d : Int} {ps : List Pn} {b1 b2 : Nat} {W1 W2 : World} {v1 v2 : Value} {i j at_ er i' j' at' er' : Int}
    (h1 : UpEnd s ins x d ps b1 (.returned (.tuple #[v1, .agg #[.int .i64 i, .int .i64 j], .int .i64 at_, .int .i64 er])) W1)
    (h2 : RUpEnd s ins x d ps b2 (.returned (.agg #[v2, .int .i64 i', .int .i64 j', .int .i64 at', .int .i64 er'])) W2) :
    i = i' ∧ j = j' ∧ at_ = at' ∧ er = er' ∧ ∃ qs : List Pc, qs.length ≤ 20000 ∧ W1.ownsRow b1 59 3 v1 qs.length (pcsCells qs) ∧ W2.ownsRow b2 59 3 v2 qs.length (pcsCells qs) := by
  have nl : ∀ (W : World) (b : Nat), W.ownsRow b 59 3 (.slice none 0 0) ([] : List Pc).length (pcsCells []) := fun W b => World.ownsRow_nil _ _ _ _
  rcases h1 with ⟨n1, e1⟩ | ⟨p1, p2, h1⟩
  · rcases h2 with ⟨_, e2⟩ | ⟨q1, q2, _⟩
    · simp only [Ending.returned.injEq, Value.tuple.injEq, Value.agg.injEq, Array.mk.injEq, List.cons.injEq, Value.int.injEq, true_and, and_true] at e1 e2
      obtain ⟨rfl, ⟨rfl, rfl⟩, rfl, rfl⟩ := e1
      obtain ⟨rfl, rfl, rfl, rfl, rfl⟩ := e2
      exact ⟨rfl, rfl, rfl, rfl, [], by simp, nl _ _, nl _ _⟩
    · exact absurd ⟨q1, q2⟩ n1
  · rcases h2 with ⟨n2, _⟩ | ⟨_, _, h2⟩
    · exact absurd ⟨p1, p2⟩ n2
    · rcases h1 with ⟨f1, e1⟩ | ⟨x1, d1, hx1, hd1, hx2, hd2, h1⟩
      · rcases h2 with ⟨_, e2⟩ | ⟨x1, d1, hx1, hd1, hx2, hd2, _⟩
        · simp only [Ending.returned.injEq, Value.tuple.injEq, Value.agg.injEq, Array.mk.injEq, List.cons.injEq, Value.int.injEq, true_and, and_true] at e1 e2
          obtain ⟨rfl, ⟨rfl, rfl⟩, rfl, rfl⟩ := e1
          obtain ⟨rfl, rfl, rfl, rfl, rfl⟩ := e2
          exact ⟨rfl, rfl, rfl, rfl, [], by simp, nl _ _, nl _ _⟩
        · exact absurd (by rw [hx1, hd1]; exact fits_nat hx2 hd2) f1
      · rcases h2 with ⟨f2, _⟩ | ⟨x2, d2, hx3, hd3, _, _, h2⟩
        · exact absurd (by rw [hx1, hd1]; exact fits_nat hx2 hd2) f2
        · obtain rfl : x1 = x2 := by omega
          obtain rfl : d1 = d2 := by omega
          rcases h1 with ⟨g1, v, o1, _, e1⟩ | ⟨er1, i1, g1, e1⟩
          · rcases h2 with ⟨_, v3, o2, e2⟩ | ⟨er2, i2, g2, _⟩
            · simp only [Ending.returned.injEq, Value.tuple.injEq, Value.agg.injEq, Array.mk.injEq, List.cons.injEq, Value.int.injEq, true_and, and_true] at e1 e2
              obtain ⟨rfl, ⟨rfl, rfl⟩, rfl, rfl⟩ := e1
              obtain ⟨rfl, rfl, rfl, rfl, rfl⟩ := e2
              refine ⟨rfl, rfl, rfl, rfl, _, ?_, o1, o2⟩
              have := qGood_length (spliced s x1 d1 ins).data.toList
              rw [qGood_ok _ g1] at this; exact this
            · rw [g1] at g2; cases g2
          · rcases h2 with ⟨g2, _⟩ | ⟨er2, i2, g2, e2⟩
            · rw [g1] at g2; cases g2
            · rw [g1] at g2; cases g2
              simp only [Ending.returned.injEq, Value.tuple.injEq, Value.agg.injEq, Array.mk.injEq, List.cons.injEq, Value.int.injEq, true_and, and_true] at e1 e2
              obtain ⟨rfl, ⟨rfl, rfl⟩, rfl, rfl⟩ := e1
              obtain ⟨rfl, rfl, rfl, rfl, rfl⟩ := e2
              exact ⟨rfl, rfl, rfl, rfl, [], by simp, nl _ _, nl _ _⟩

set_option maxRecDepth 100000 in
set_option maxHeartbeats 8000000 in
/-- **updates** -/
theorem updates_any (s ins : ByteArray) (x d : Int) (v : Value) (ps : List Pn) (hm : s.size + ins.size ≤ maxLen) (w : World) (he : Env w) (hv : PnRead w v ps) :
    Calls Tryz.prog 16 #[.string s, v, SpV x d ins] w fun e W => e = .returned (.bool true) ∧ Below w.heap.size w W := by
  have HM := Lib.hid hm
  have HV := Lib.hid hv
  have hb0 := (Below.refl w.heap.size w).alloc (Nat.le_refl _) (.cells #[.int .i64 x, .int .i64 d, .string ins] 40)
  have HB0 := Lib.hid hb0
  have HE0 := Lib.hid (he.below hb0)
  clear hm hv he hb0
  unfold SpV
  go_enter Tryz.func16, Tryz.ntmps16
  go_wp2_with fail
  refine (update_any s ins x d v ps HM.out _ HE0.out (HV.out.bl HB0.out)).mono ?_
  rintro e W1 ⟨h1, hb1⟩
  obtain ⟨a, n, c, i, j, at_, er, rfl⟩ := up_form h1
  have H1 := Lib.hid h1
  have HB1 := Lib.hid (bt HB0.out hb1)
  have HU1 := Lib.hid hb1
  clear h1 hb1
  have hb2 := (Below.refl W1.heap.size W1).alloc (Nat.le_refl _) (.cells #[.int .i64 i, .int .i64 j] 55)
  have hs1 := ((HU1.out.block w.heap.size (by rw [World.size_alloc]; omega)).trans (heap_alloc_new w (.cells #[.int .i64 x, .int .i64 d, .string ins] 40)))
  have hs2 := (hb2.block _ (Array.getElem?_eq_some_iff.1 hs1).1).trans hs1
  have hk2 := heap_alloc_new W1 (.cells #[.int .i64 i, .int .i64 j] 55)
  go_upto_region 2 with fail
  obtain ⟨W2, hW2⟩ : ∃ W2, W1.alloc (.cells #[.int .i64 i, .int .i64 j] 55) = W2 := ⟨_, rfl⟩
  rw [hW2] at hb2 hs2 hk2 ⊢
  obtain ⟨gk, hgk⟩ : ∃ g, W1.heap.size = g := ⟨_, rfl⟩
  rw [hgk] at hk2 ⊢
  have s0 : W2.cell? ⟨w.heap.size, 0, none⟩ = some (.int .i64 x) := by rw [cell_of_row _ _ _ _ _ _ hs2]; rfl
  have s1 : W2.cell? ⟨w.heap.size, 1, none⟩ = some (.int .i64 d) := by rw [cell_of_row _ _ _ _ _ _ hs2]; rfl
  have s2 : W2.cell? ⟨w.heap.size, 2, none⟩ = some (.string ins) := by rw [cell_of_row _ _ _ _ _ _ hs2]; rfl
  have HK2 := Lib.hid hk2
  have HU2 := Lib.hid hb2
  have HB2 := Lib.hid (bt HB1.out hb2)
  clear hW2 hgk hb2 hs1 hs2 hk2
  go_wp2_with fail
  refine (refUpdate_any s ins x d v ps HM.out _ (HV.out.bl HB2.out)).mono ?_
  rintro e W3 ⟨h3, hb3⟩
  obtain ⟨a', n', c', i', j', at', er', rfl⟩ := rup_form h3
  obtain ⟨rfl, rfl, rfl, rfl, qs, hqs, o1, o2⟩ := up_same H1.out h3
  have hb4 := hb3.alloc hb3.size (.cells #[.slice a' n' c', .int .i64 i, .int .i64 j, .int .i64 at_, .int .i64 er] 72)
  have hn := heap_alloc_new W3 (.cells #[.slice a' n' c', .int .i64 i, .int .i64 j, .int .i64 at_, .int .i64 er] 72)
  have ha4 := (Below.refl W3.heap.size W3).alloc (Nat.le_refl _) (.cells #[.slice a' n' c', .int .i64 i, .int .i64 j, .int .i64 at_, .int .i64 er] 72)
  have o1' := owns_bl' (owns_bl' o1 HU2.out) hb4
  have o2' := owns_bl' o2 ha4
  have hk4 := (hb4.block _ (Array.getElem?_eq_some_iff.1 HK2.out).1).trans HK2.out
  go_upto_region 3 with fail
  obtain ⟨W4, hW4⟩ : ∃ W4, W3.alloc (.cells #[.slice a' n' c', .int .i64 i, .int .i64 j, .int .i64 at_, .int .i64 er] 72) = W4 := ⟨_, rfl⟩
  rw [hW4] at hb4 hn o1' o2' hk4 ⊢
  obtain ⟨gb, hgb⟩ : ∃ g, W3.heap.size = g := ⟨_, rfl⟩
  rw [hgb] at hn ⊢
  have k0 : W4.cell? ⟨gk, 0, none⟩ = some (.int .i64 i) := by rw [cell_of_row _ _ _ _ _ _ hk4]; rfl
  have k1 : W4.cell? ⟨gk, 1, none⟩ = some (.int .i64 j) := by rw [cell_of_row _ _ _ _ _ _ hk4]; rfl
  have y0 : W4.cell? ⟨gb, 0, none⟩ = some (.slice a' n' c') := by rw [cell_of_row _ _ _ _ _ _ hn]; rfl
  have y1 : W4.cell? ⟨gb, 1, none⟩ = some (.int .i64 i) := by rw [cell_of_row _ _ _ _ _ _ hn]; rfl
  have y2 : W4.cell? ⟨gb, 2, none⟩ = some (.int .i64 j) := by rw [cell_of_row _ _ _ _ _ _ hn]; rfl
  have y3 : W4.cell? ⟨gb, 3, none⟩ = some (.int .i64 at_) := by rw [cell_of_row _ _ _ _ _ _ hn]; rfl
  have y4 : W4.cell? ⟨gb, 4, none⟩ = some (.int .i64 er) := by rw [cell_of_row _ _ _ _ _ _ hn]; rfl
  have O1 := Lib.hid o1'
  have O2 := Lib.hid o2'
  have HQS := Lib.hid hqs
  have HB4 := Lib.hid (bt HB2.out hb4)
  clear hW4 hgb hb3 hb4 hn ha4 o1 o2 o1' o2' hk4 h3 H1 hqs s0 s1 s2
  go_wp2_with fail
  refine (refSamePieces_any _ _ (qs.map Pc.n) _ (pn_read O1.out (Nat.le_trans HQS.out (by unfold maxLen; omega))) (pn_read O2.out (Nat.le_trans HQS.out (by unfold maxLen; omega)))).mono ?_
  rintro e W5 ⟨rfl, hb5⟩
  have HB5 := Lib.hid (bt HB4.out hb5)
  clear hb5
  go_wp2_with fail
  go_ret
  exact ⟨rfl, HB5.out⟩

set_option maxRecDepth 100000 in
set_option maxHeartbeats 8000000 in
/-- **LexUpdates** -/
theorem lexUpdates_any (s ins : ByteArray) (x d : Int) (v : Value) (ps : List Pn) (hm : s.size + ins.size ≤ maxLen) (w : World) (he : Env w) (hv : PnRead w v ps) :
    Calls Tryz.prog 4 #[.string s, v, SpV x d ins] w fun e W => e = .returned (.bool true) ∧ Below w.heap.size w W := by
  have hms : s.size ≤ maxLen := by omega
  have HMS := Lib.hid hms
  have HM := Lib.hid hm
  have HV := Lib.hid hv
  have hb0 := (Below.refl w.heap.size w).alloc (Nat.le_refl _) (.cells #[.int .i64 x, .int .i64 d, .string ins] 40)
  have HB0 := Lib.hid hb0
  have HE0 := Lib.hid (he.below hb0)
  have hS : ∀ W : World, Below (w.alloc (.cells #[.int .i64 x, .int .i64 d, .string ins] 40)).heap.size (w.alloc (.cells #[.int .i64 x, .int .i64 d, .string ins] 40)) W → W.cell? ⟨w.heap.size, 0, none⟩ = some (.int .i64 x) ∧ W.cell? ⟨w.heap.size, 1, none⟩ = some (.int .i64 d) ∧ W.cell? ⟨w.heap.size, 2, none⟩ = some (.string ins) := fun W hb => by
    have hs1 := ((hb.block w.heap.size (by rw [World.size_alloc]; omega)).trans (heap_alloc_new w (.cells #[.int .i64 x, .int .i64 d, .string ins] 40)))
    exact ⟨by rw [cell_of_row _ _ _ _ _ _ hs1]; rfl, by rw [cell_of_row _ _ _ _ _ _ hs1]; rfl, by rw [cell_of_row _ _ _ _ _ _ hs1]; rfl⟩
  have HS := Lib.hid hS
  have hch : ∃ (t : ByteArray) (r : Int), (∀ W : World, Calls Tryz.prog 14 #[.string s, SpV x d ins] W fun e W' => e = .returned (.tuple #[.string t, .int .i64 r]) ∧ Below W.heap.size W W') ∧ (∀ W : World, Calls Tryz.prog 15 #[.string s, SpV x d ins] W fun e W' => e = .returned (.tuple #[.string t, .int .i64 r]) ∧ Below W.heap.size W W') := by
    by_cases hf : Fits s x d
    · obtain ⟨x', d', rfl, rfl, hx1, hd1⟩ : ∃ x' d' : Nat, x = x' ∧ d = d' ∧ x' ≤ s.size ∧ d' ≤ s.size - x' := by
        obtain ⟨h1, h2, h3, h4⟩ := hf
        exact ⟨x.toNat, d.toNat, by omega, by omega, by omega, by omega⟩
      exact ⟨_, 0, fun W => change_ok s ins x' d' hm hx1 hd1 W, fun W => refChange_ok s ins x' d' hm hx1 hd1 W⟩
    · exact ⟨_, 1, fun W => change_bad s ins x d hms hf W, fun W => refChange_bad s ins x d hms hf W⟩
  obtain ⟨t, r, hc1, hc2⟩ := hch
  have HC1 := Lib.hid hc1
  have HC2 := Lib.hid hc2
  obtain ⟨E, hE⟩ : ∃ E, qErr s.data.toList = E := ⟨_, rfl⟩
  have EE := Lib.hid hE
  clear hm hms hv he hb0 hS hc1 hc2 hE
  unfold SpV at HC1 HC2 ⊢
  go_enter Tryz.func4, Tryz.ntmps4
  go_wp2_with fail
  refine (sane_any _ HE0.out).mono ?_
  rintro e W1 ⟨rfl, hb1⟩
  obtain ⟨s0, s1, s2⟩ := HS.out W1 hb1
  have HB1 := Lib.hid hb1
  have HE1 := Lib.hid (HE0.out.below hb1)
  clear hb1
  go_wp2_with fail
  refine (HC1.out _).mono ?_
  rintro e W2 ⟨rfl, hb2⟩
  have HB2 := Lib.hid (bt HB1.out hb2)
  have HE2 := Lib.hid (HE1.out.below hb2)
  clear s0 s1 s2 hb2
  obtain ⟨s0, s1, s2⟩ := HS.out W2 HB2.out
  go_wp2_with fail
  refine (HC2.out _).mono ?_
  rintro e W3 ⟨rfl, hb3⟩
  have HB3 := Lib.hid (bt HB2.out hb3)
  have HE3 := Lib.hid (HE2.out.below hb3)
  clear s0 s1 s2 hb3
  obtain ⟨s0, s1, s2⟩ := HS.out W3 HB3.out
  go_wp2_with fail
  refine (updates_any s ins x d v ps HM.out _ HE3.out (HV.out.bl (bt HB0.out HB3.out))).mono ?_
  rintro e W4 ⟨rfl, hb4⟩
  have HB4 := Lib.hid (bt HB3.out hb4)
  have HE4 := Lib.hid (HE3.out.below hb4)
  clear s0 s1 s2 hb4
  go_wp2_with fail
  refine (refPieces_any s HMS.out _).mono ?_
  rintro e W5 ⟨pv, rfl, hown, _, hb5⟩
  rw [EE.out]
  obtain ⟨pa, pn, pc, rfl⟩ := ownsRow_slice hown
  obtain ⟨T, hT⟩ : ∃ T, qErrAt s.data.toList = T := ⟨_, rfl⟩
  rw [hT]
  have hA := (Below.refl W5.heap.size W5).alloc (Nat.le_refl _) (.cells #[.slice pa pn pc, .int .i64 T, .int .i64 E] 28)
  have HB6 := Lib.hid (bt (bt HB4.out hb5) hA)
  have HE6 := Lib.hid ((HE4.out.below hb5).below hA)
  have HO := Lib.hid (owns_bl' hown hA)
  clear hb5 hA hown hT
  cases e0 : ((E : Int) != 0)
  · obtain ⟨s0, s1, s2⟩ := HS.out _ HB6.out
    go_wp2_with fail
    refine (updates_any s ins x d _ _ HM.out _ HE6.out (pn_read HO.out (Nat.le_trans (qGood_length _) (by unfold maxLen; omega)))).mono ?_
    rintro e W7 ⟨rfl, hb7⟩
    have HB7 := Lib.hid (bt (bt HB0.out HB6.out) hb7)
    clear hb7
    go_wp2_with fail
    go_ret
    exact ⟨rfl, HB7.out⟩
  · go_wp2_with fail
    go_ret
    exact ⟨rfl, bt HB0.out HB6.out⟩
end Go.Proofs.YtdfkkeeohbgmbaaGreatDoor
