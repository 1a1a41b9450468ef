/- The walk of LexCuts. -/
import Derived.Test.YtdfkkeeohbgmbaaGreatDoorQ4
import Derived.Test.YtdfkkeeohbgmbaaGreatDoorA31
namespace Go.Proofs.YtdfkkeeohbgmbaaGreatDoor
open Go.RowKit Lx

attribute [local go_sem] Oper.semAt_some

set_option maxRecDepth 100000 in
set_option maxHeartbeats 8000000 in
/-- **LexCuts** -/
theorem lexCuts_any (s : ByteArray) (hm : s.size ≤ maxLen) (w : World) (he : Env w) :
    Calls Tryz.prog 3 #[.string s] w fun e W => e = .returned (.bool true) ∧ Below w.heap.size w W := by
  obtain ⟨E, hE⟩ : ∃ E, qErr s.data.toList = E := ⟨_, rfl⟩
  obtain ⟨T, hT⟩ : ∃ T, qErrAt s.data.toList = T := ⟨_, rfl⟩
  have EE := Lib.hid hE
  have ET := Lib.hid hT
  have HE := Lib.hid he
  have HM := Lib.hid hm
  have hg := qGood_length s.data.toList
  have hsl := scan_length s.data.toList
  have HG := Lib.hid hg
  have HSL := Lib.hid hsl
  clear he hE hT hm hg hsl
  go_enter Tryz.func3, Tryz.ntmps3
  go_wp2_with fail
  refine (sane_any _ HE.out).mono ?_
  rintro e W1 ⟨rfl, hb1⟩
  have HB1 := Lib.hid hb1
  have HE1 := Lib.hid (HE.out.below hb1)
  clear hb1
  go_wp2_with fail
  refine (pieces_good s HM.out _ HE1.out).mono ?_
  rintro e W2 ⟨v1, rfl, o1, _, hb2⟩
  rw [EE.out, ET.out]
  obtain ⟨a1, n1, c1, rfl⟩ := ownsRow_slice o1
  have O1 := Lib.hid o1
  have HB2 := Lib.hid (bt HB1.out hb2)
  have HE2 := Lib.hid (HE1.out.below hb2)
  clear hb2 o1 HB1 HE1
  go_wp2_with fail
  refine (refPieces_any s HM.out _).mono ?_
  rintro e W3 ⟨v2, rfl, o2, _, hb3⟩
  rw [EE.out, ET.out]
  obtain ⟨a2, n2, c2, rfl⟩ := ownsRow_slice o2
  have O1' := Lib.hid (owns_bl' O1.out hb3)
  have O2 := Lib.hid o2
  have HB3 := Lib.hid (bt HB2.out hb3)
  have HE3 := Lib.hid (HE2.out.below hb3)
  have hX := heap_alloc_new W3 (.cells #[.slice a2 n2 c2, .int .i64 T, .int .i64 E] 28)
  have hA3 := (Below.refl W3.heap.size W3).alloc (Nat.le_refl _) (.cells #[.slice a2 n2 c2, .int .i64 T, .int .i64 E] 28)
  have HX := Lib.hid hX
  have HA3 := Lib.hid hA3
  clear hb3 o2 HB2 HE2 hX hA3 O1
  go_wp2_with fail
  obtain ⟨W4, hW4⟩ : ∃ W4, W3.alloc (.cells #[.slice a2 n2 c2, .int .i64 T, .int .i64 E] 28) = W4 := ⟨_, rfl⟩
  rw [hW4] at HX HA3 ⊢
  obtain ⟨gx, hgx⟩ : ∃ g, W3.heap.size = g := ⟨_, rfl⟩
  rw [hgx] at HX ⊢
  have O1'' := Lib.hid (owns_bl' O1'.out HA3.out)
  have O2' := Lib.hid (owns_bl' O2.out HA3.out)
  have HB4 := Lib.hid (bt HB3.out HA3.out)
  have HE4 := Lib.hid (HE3.out.below HA3.out)
  clear hW4 hgx O1' O2 HB3 HE3 HA3
  refine (scan_any s HM.out _ HE4.out).mono ?_
  rintro e W5 ⟨v3, rfl, o3, _, hb5⟩
  rw [EE.out, ET.out]
  obtain ⟨a3, n3, c3, rfl⟩ := ownsRow_slice o3
  have O3 := Lib.hid o3
  have O1 := Lib.hid (owns_bl' O1''.out hb5)
  have O2 := Lib.hid (owns_bl' O2'.out hb5)
  have HX5 := Lib.hid ((hb5.block _ (Array.getElem?_eq_some_iff.1 HX.out).1).trans HX.out)
  have HB5 := Lib.hid (bt HB4.out hb5)
  clear hb5 o3 O1'' O2' HX HB4 HE4
  go_wp2_with fail
  refine (refScan_any s HM.out _).mono ?_
  rintro e W6 ⟨v4, rfl, o4, _, hb6⟩
  rw [EE.out, ET.out]
  obtain ⟨a4, n4, c4, rfl⟩ := ownsRow_slice o4
  have hb7 := hb6.alloc hb6.size (.cells #[.slice a4 n4 c4, .int .i64 T, .int .i64 E] 34)
  have hA6 := (Below.refl W6.heap.size W6).alloc (Nat.le_refl _) (.cells #[.slice a4 n4 c4, .int .i64 T, .int .i64 E] 34)
  obtain ⟨W7, hW7⟩ : ∃ W7, W6.alloc (.cells #[.slice a4 n4 c4, .int .i64 T, .int .i64 E] 34) = W7 := ⟨_, rfl⟩
  have hY := heap_alloc_new W6 (.cells #[.slice a4 n4 c4, .int .i64 T, .int .i64 E] 34)
  rw [hW7] at hb7 hA6 hY
  have O1' := Lib.hid (owns_bl' O1.out hb7)
  have O2' := Lib.hid (owns_bl' O2.out hb7)
  have O3' := Lib.hid (owns_bl' O3.out hb7)
  have O4' := Lib.hid (owns_bl' o4 hA6)
  have HX7 := Lib.hid ((hb7.block _ (Array.getElem?_eq_some_iff.1 HX5.out).1).trans HX5.out)
  have HY7 := Lib.hid hY
  have HB7 := Lib.hid (bt HB5.out hb7)
  have HW7 := Lib.hid hW7
  have gxl := Lib.hid (Array.getElem?_eq_some_iff.1 HX7.out).1
  clear hb6 hb7 hA6 hY o4 O1 O2 O3 HX5 HB5 hW7
  go_upto_region 6 with fail
  rw [HW7.out]
  obtain ⟨gy, hgy⟩ : ∃ g, W6.heap.size = g := ⟨_, rfl⟩
  rw [hgy] at HY7 ⊢
  have x0 : W7.cell? ⟨gx, 0, none⟩ = some (.slice a2 n2 c2) := by rw [cell_of_row _ _ _ _ _ _ HX7.out]; rfl
  have x1 : W7.cell? ⟨gx, 1, none⟩ = some (.int .i64 T) := by rw [cell_of_row _ _ _ _ _ _ HX7.out]; rfl
  have x2 : W7.cell? ⟨gx, 2, none⟩ = some (.int .i64 E) := by rw [cell_of_row _ _ _ _ _ _ HX7.out]; rfl
  clear hgy HW7
  go_wp2_with fail
  refine (refSamePieces_any _ _ _ _ (pn_read O1'.out (Nat.le_trans HG.out (by unfold maxLen; omega))) (pn_read O2'.out (Nat.le_trans HG.out (by unfold maxLen; omega)))).mono ?_
  rintro e W8 ⟨rfl, hb8⟩
  have hY8 := (hb8.block _ (Array.getElem?_eq_some_iff.1 HY7.out).1).trans HY7.out
  have y0 : W8.cell? ⟨gy, 0, none⟩ = some (.slice a4 n4 c4) := by rw [cell_of_row _ _ _ _ _ _ hY8]; rfl
  have y1 : W8.cell? ⟨gy, 1, none⟩ = some (.int .i64 T) := by rw [cell_of_row _ _ _ _ _ _ hY8]; rfl
  have y2 : W8.cell? ⟨gy, 2, none⟩ = some (.int .i64 E) := by rw [cell_of_row _ _ _ _ _ _ hY8]; rfl
  have O3'' := Lib.hid (owns_bl' O3'.out hb8)
  have O4'' := Lib.hid (owns_bl' O4'.out hb8)
  have HB8 := Lib.hid (bt HB7.out hb8)
  clear hb8 hY8 HB7 O3' O4' O1' O2' x0 x1 x2
  go_wp2_with fail
  refine (refEqual_any _ _ s (qScan s.data.toList) _ (tk_five O3''.out HSL.out) (tk_five O4''.out HSL.out)).mono ?_
  rintro e W9 ⟨rfl, hb9⟩
  have HB9 := Lib.hid (bt HB8.out hb9)
  clear hb9 HB8
  go_wp2_with fail
  go_ret
  exact ⟨rfl, HB9.out⟩
end Go.Proofs.YtdfkkeeohbgmbaaGreatDoor
