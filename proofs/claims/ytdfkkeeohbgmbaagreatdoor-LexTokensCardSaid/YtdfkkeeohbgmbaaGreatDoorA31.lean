/- Package lex: the chapter's examples hold. -/
import Derived.Test.YtdfkkeeohbgmbaaGreatDoorA30
namespace Go.Proofs.YtdfkkeeohbgmbaaGreatDoor
open Go.RowKit Lx

attribute [local go_sem] Oper.semAt_some
attribute [local go_sem ↓] k_eql k_guard

theorem owns_bl39 {W W' : World} {base e size k : Nat} {v : Value} {xs : List Value} (h : W.ownsRow base e size v k xs) (hb : Below W.heap.size W W') : W'.ownsRow base e size v k xs := owns_bl' h hb

theorem read6 {W : World} {g : Nat} (h : W.heap[g]? = some (.cells #[.int .i64 1, .int .i64 0, .int .i64 1, .int .i64 7, .int .i64 1, .int .i64 1, .int .i64 1, .int .i64 2, .int .i64 1, .int .i64 7, .int .i64 3, .int .i64 1, .int .i64 1, .int .i64 4, .int .i64 1] 59 (0, 0))) : PnRead W (.slice (some ⟨g, 0, none⟩) 5 5) ex6n := by
  refine ⟨some ⟨g, 0, none⟩, 5, rfl, ⟨by simp [ex6n, maxLen], by simp [ex6n]⟩, fun k p hk => ⟨g, 0, rfl, (Array.getElem?_eq_some_iff.1 h).1, ?_⟩⟩
  match k, hk with
  | 0, hk | 1, hk | 2, hk | 3, hk | 4, hk => simp [ex6n] at hk; subst hk; simp [World.cell?, h]
  | k + 5, hk => simp [ex6n] at hk

set_option maxRecDepth 100000 in
set_option maxHeartbeats 8000000 in
theorem sane_any (w : World) (he : Env w) :
    Calls Tryz.prog 7 #[] w fun e W => e = .returned (.bool true) ∧ Below w.heap.size w W := by
  have HE := Lib.hid he
  clear he
  go_enter Tryz.func7, Tryz.ntmps7
  go_wp2_with fail
  refine (scan_any ex1 (by decide) _ HE.out).mono ?_
  rintro e W1 ⟨v1, rfl, o1, _, hb1⟩
  rw [ex1_scan] at o1
  rw [ex1_err]
  have hE1 := HE.out.below hb1
  obtain ⟨g1, cap1, rfl⟩ := ownsRow_succ o1
  have O1 := Lib.hid o1
  have B1 := Lib.hid hb1
  have E1 := Lib.hid hE1
  clear o1 hb1 hE1
  go_wp2_with fail
  refine (scan_any ex2 (by decide) _ E1.out).mono ?_
  rintro e W2 ⟨v2, rfl, o2, _, hb2⟩
  rw [ex2_scan] at o2
  rw [ex2_err]
  obtain ⟨g2, cap2, rfl⟩ := ownsRow_succ o2
  have O2 := Lib.hid o2
  have B2 := Lib.hid hb2
  have E2 := Lib.hid (E1.out.below hb2)
  clear o2 hb2
  go_wp2_with fail
  refine (scan_any ex3 (by decide) _ E2.out).mono ?_
  rintro e W3 ⟨v3, rfl, o3, _, hb3⟩
  rw [ex3_err.1, ex3_err.2]
  obtain ⟨v3a, v3b, v3c, rfl⟩ : ∃ a n c, v3 = .slice a n c := by rcases o3.2 with ⟨rfl, _⟩ | ⟨g, cap, cur, rfl, _⟩ <;> exact ⟨_, _, _, rfl⟩
  have B3 := Lib.hid hb3
  have E3 := Lib.hid (E2.out.below hb3)
  clear o3 hb3
  go_wp2_with fail
  refine (scan_any ex4 (by decide) _ E3.out).mono ?_
  rintro e W4 ⟨v4, rfl, o4, _, hb4⟩
  rw [ex4_err]
  obtain ⟨v4a, v4b, v4c, rfl⟩ : ∃ a n c, v4 = .slice a n c := by rcases o4.2 with ⟨rfl, _⟩ | ⟨g, cap, cur, rfl, _⟩ <;> exact ⟨_, _, _, rfl⟩
  have B4 := Lib.hid hb4
  have E4 := Lib.hid (E3.out.below hb4)
  clear o4 hb4
  go_wp2_with fail
  refine (pieces_good ex5 (by decide) _ E4.out).mono ?_
  rintro e W5 ⟨v5, rfl, o5, _, hb5⟩
  rw [ex5_good] at o5
  rw [ex5_err]
  obtain ⟨g5, cap5, rfl⟩ := ownsRow_succ o5
  have O5 := Lib.hid o5
  have B5 := Lib.hid hb5
  have E5 := Lib.hid (E4.out.below hb5)
  clear o5 hb5
  go_wp2_with fail
  have BA := (Below.refl W5.heap.size W5).alloc (Nat.le_refl _) (.cells #[.int .i64 1, .int .i64 0, .int .i64 1, .int .i64 7, .int .i64 1, .int .i64 1, .int .i64 1, .int .i64 2, .int .i64 1, .int .i64 7, .int .i64 3, .int .i64 1, .int .i64 1, .int .i64 4, .int .i64 1] 59)
  refine (update_any ex6 ⟨#[100, 100]⟩ 2 1 _ ex6n (by decide) _ (E5.out.below BA) (read6 (heap_alloc_new W5 _))).mono ?_
  rintro e W6 ⟨hup, hb6⟩
  obtain ⟨v6, ⟨g6, cap6, rfl⟩, rfl⟩ := ex6_up hup
  have B6 := Lib.hid (bt BA hb6)
  have E6 := Lib.hid (E5.out.below B6.out)
  clear hup hb6 BA
  go_wp2_with fail
  have BB := (Below.refl W6.heap.size W6).alloc (Nat.le_refl _) (.cells #[.int .i64 2, .int .i64 2] 55)
  refine (split_any ⟨#[97, 114, 101, 97, 64, 115, 104, 97, 112, 101, 115]⟩ (by decide) _ (E6.out.below BB)).mono ?_
  rintro e W8 ⟨rfl, hb8⟩
  rw [show (⟨#[97, 114, 101, 97, 64, 115, 104, 97, 112, 101, 115]⟩ : ByteArray).data.toList = [97, 114, 101, 97, 64, 115, 104, 97, 112, 101, 115] from rfl, ex8_split]
  have E8 := Lib.hid ((E6.out.below BB).below hb8)
  have B68 := Lib.hid (bt BB hb8)
  obtain ⟨k0, k1, _, _⟩ := cells2 (heap_bl (heap_alloc_new W6 (.cells #[.int .i64 2, .int .i64 2] 55)) hb8)
  have C58 := Lib.hid (bt B6.out B68.out)
  have C28 := Lib.hid (bt (bt B3.out B4.out) (bt B5.out C58.out))
  have C18 := Lib.hid (bt B2.out C28.out)
  have a1 : W8.cell? ⟨g1, 12, none⟩ = some (.string ⟨#[60, 112, 111, 105, 110, 116, 62]⟩) := by
    rw [(owns_bl' O1.out C18.out).cellAt 12 (by simp), ← ex1_text]; rfl
  have a2 : W8.cell? ⟨g2, 21, none⟩ = some (.int .i64 (-3)) := by
    rw [(owns_bl' O2.out C28.out).cellAt 21 (by simp), ← ex2_num]; rfl
  have a3 : W8.cell? ⟨g2, 32, none⟩ = some (.string ⟨#[98, 45, 50]⟩) := by
    rw [(owns_bl' O2.out C28.out).cellAt 32 (by simp), ← ex2_text]; rfl
  have a5 : W8.cell? ⟨g5, 8, none⟩ = some (.int .i64 7) := by
    rw [(owns_bl' O5.out C58.out).cellAt 8 (by simp)]; rfl
  have T8 := Lib.hid (bt (bt B1.out C18.out) (Below.refl _ _))
  clear BB hb8
  go_wp2_with fail
  refine (kind_any ⟨#[120, 58]⟩ (by decide) _ E8.out).mono ?_
  rintro e W9 ⟨rfl, hb9⟩
  rw [show (⟨#[120, 58]⟩ : ByteArray).data.toList = [120, 58] from rfl, ex9_kind]
  go_wp2_with fail
  refine (isPlain_any ⟨#[101, 109, 112, 116, 121, 63]⟩ (by decide) _ (E8.out.below hb9)).mono ?_
  rintro e W10 ⟨rfl, hb10⟩
  rw [show (⟨#[101, 109, 112, 116, 121, 63]⟩ : ByteArray).data.toList = [101, 109, 112, 116, 121, 63] from rfl, ex10_plain]
  go_wp2_with fail
  refine (isPlain_any ⟨#[120, 64, 108]⟩ (by decide) _ ((E8.out.below hb9).below hb10)).mono ?_
  rintro e W11 ⟨rfl, hb11⟩
  rw [show (⟨#[120, 64, 108]⟩ : ByteArray).data.toList = [120, 64, 108] from rfl, ex11_plain]
  go_wp2_with fail
  go_ret
  exact ⟨rfl, bt T8.out (bt (bt hb9 hb10) hb11)⟩
end Go.Proofs.YtdfkkeeohbgmbaaGreatDoor
