/- Package lex: SamePieces, and the walk of LexUndone. -/
import Derived.Test.YtdfkkeeohbgmbaaDoorB1
namespace Go.Proofs.YtdfkkeeohbgmbaaDoor
open Go.RowKit Lx

attribute [local go_sem] Oper.semAt_some
attribute [local go_sem ↓] pn_neq pn_guard

set_option maxHeartbeats 2000000 in
/-- **SamePieces**, of the same pieces -/
theorem samePieces_any (va vb : Value) (xs : List Pn) (w : World) (ha : PnRead w va xs) (hb : PnRead w vb xs) :
    Calls Tryd.prog 25 #[va, vb] w fun e W => e = .returned (.bool true) ∧ Below w.heap.size w W := by
  obtain ⟨aa, ca, rfl, hma, hra⟩ := ha
  obtain ⟨ab, cb, rfl, hmb, hrb⟩ := hb
  have HA := Lib.hid hra
  have HB := Lib.hid hrb
  clear hra hrb
  unfold maxLen at hma hmb
  obtain ⟨n, hn⟩ : ∃ n, xs.length = n := ⟨_, rfl⟩
  rw [hn] at hma hmb ⊢
  have HN := Lib.hid hn
  clear hn
  go_enter Tryd.func25, Tryd.ntmps25
  go_wp2_with fail
  go_loopw [5] (fun x wr => ∃ k : Nat, k ≤ n ∧ x = .int .i64 k ∧ Below w.heap.size w wr) (fun x _ => n - (intOf x).toNat)
  case atStart => exact ⟨0, by omega, rfl, Below.refl _ _⟩
  case round =>
    obtain ⟨k, hk, rfl, hbw⟩ := hrel
    by_cases hlt : k < n
    · obtain ⟨p, hp⟩ : ∃ p, xs[k]? = some p := ⟨_, List.getElem?_eq_getElem (by have := HN.out; omega)⟩
      obtain ⟨ga, oa, rfl, hga, a0, a1, a2⟩ := HA.out k p hp
      obtain ⟨gb, ob, rfl, hgb, b0, b1, b2⟩ := HB.out k p hp
      have a0 := (hbw.cell (p := ⟨ga, _, none⟩) hga).trans a0
      have a1 := (hbw.cell (p := ⟨ga, _, none⟩) hga).trans a1
      have a2 := (hbw.cell (p := ⟨ga, _, none⟩) hga).trans a2
      have b0 := (hbw.cell (p := ⟨gb, _, none⟩) hgb).trans b0
      have b1 := (hbw.cell (p := ⟨gb, _, none⟩) hgb).trans b1
      have b2 := (hbw.cell (p := ⟨gb, _, none⟩) hgb).trans b2
      have hk0 : (0 : Int) ≤ (k : Int) := by omega
      have hk1 : (k : Int) < (n : Int) := by omega
      have hd : decide (k < n) = true := by simpa using hlt
      clear hp
      go_wp2_with fail
      go_quiet (fail)
      go_wp2_with fail
      go_roundw
      case rel => exact ⟨k + 1, by omega, rfl, below_drewN hbw _⟩
      case measure => simp [intOf]; omega
    · have hd : decide (k < n) = false := by simpa using hlt
      go_wp2_with fail
      go_ret
      exact ⟨rfl, hbw⟩

theorem bytes_eq {a b : ByteArray} (h : a.data.toList = b.data.toList) : a = b := by
  cases a; cases b; simp at h; simp [h]

/-- A splice that is undone. -/
theorem spliced_undo (s ins : ByteArray) (x d : Nat) (hx : x ≤ s.size) : spliced (spliced s x d ins) x ins.size (s.extract x (x + d)) = s := by
  apply bytes_eq
  have hl : s.data.toList.length = s.size := by simp
  have hi : ins.data.toList.length = ins.size := by simp
  rw [spliced_list, spliced_list]
  have he : (s.extract x (x + d)).data.toList = (s.data.toList.drop x).take d := by
    have := Lib.extract_toList s x (x + d)
    rw [toList_data] at this
    rw [this, show x + d - x = d by omega]
  rw [he]
  have h1 : (s.data.toList.take x ++ ins.data.toList ++ s.data.toList.drop (x + d)).take x = s.data.toList.take x := by
    rw [List.append_assoc, List.take_append_of_le_length (by rw [List.length_take]; omega), List.take_take, Nat.min_self]
  have h2 : (s.data.toList.take x ++ ins.data.toList ++ s.data.toList.drop (x + d)).drop (x + ins.size) = s.data.toList.drop (x + d) := by
    rw [List.drop_append, List.drop_eq_nil_of_le (by rw [List.length_append, List.length_take]; omega), List.nil_append, List.length_append, List.length_take]
    rw [show x + ins.size - (min x s.data.toList.length + ins.data.toList.length) = 0 by omega, List.drop_zero]
  rw [h1, h2, List.append_assoc, ← List.drop_drop, List.take_append_drop, List.take_append_drop]

set_option maxRecDepth 100000 in
set_option maxHeartbeats 4000000 in
/-- **LexUndone** -/
theorem lexUndone_any (s ins : ByteArray) (x d : Int) (hm : s.size + ins.size + s.size ≤ maxLen) (w : World) (he : Env w) :
    Calls Tryd.prog 9 #[.string s, SpV x d ins] w fun e W => e = .returned (.bool true) ∧ Below w.heap.size w W := by
  have HE := Lib.hid he
  clear he
  have hms : s.size ≤ maxLen := by omega
  have HM := Lib.hid hm
  clear hm
  have BA := (Below.refl w.heap.size w).alloc (Nat.le_refl _) (.cells #[.int .i64 x, .int .i64 d, .string ins] 48)
  by_cases hf : Fits s x d
  · obtain ⟨f0, f1, f2, f3⟩ := hf
    obtain ⟨x, rfl⟩ : ∃ x' : Nat, x = x' := ⟨x.toNat, by omega⟩
    obtain ⟨d, rfl⟩ : ∃ d' : Nat, d = d' := ⟨d.toNat, by omega⟩
    have hx : x ≤ s.size := by omega
    have hd : d ≤ s.size - x := by omega
    clear f0 f1 f2 f3
    unfold SpV
    go_enter Tryd.func9, Tryd.ntmps9
    go_wp2_with fail
    refine (sane_any _ (HE.out.below BA)).mono ?_
    rintro e W1 ⟨rfl, hb1⟩
    have h48 := heap_bl (heap_alloc_new w (.cells #[.int .i64 x, .int .i64 d, .string ins] 48)) hb1
    obtain ⟨k0, k1, k2⟩ := cells3g h48
    have H48 := Lib.hid h48
    have HB1 := Lib.hid (bt BA hb1)
    clear h48 hb1 BA
    go_wp2_with fail
    refine (change_ok s ins x d (by have := HM.out; omega) hx hd _).mono ?_
    rintro e W2 ⟨rfl, hb2⟩
    have h48 := heap_bl H48.out hb2
    obtain ⟨k0, k1, k2⟩ := cells3g h48
    have H482 := Lib.hid h48
    have HB2 := Lib.hid (bt HB1.out hb2)
    clear h48 hb2 H48
    go_wp2_with fail
    have s1 : IntKind.i64.wrap ((x : Int) + (d : Int)) = (x : Int) + (d : Int) := IntWalk.i64_in _ (by have := HM.out; unfold maxLen at this; omega)
    have q0 : (0 : Int) ≤ (x : Int) := by omega
    have q1 : (x : Int) ≤ (x : Int) + (d : Int) := by omega
    have q2 : (x : Int) + (d : Int) ≤ (s.size : Int) := by omega
    have hz : w.heap.size < W2.heap.size := (Array.getElem?_eq_some_iff.1 H482.out).1
    have l0 := (Below.heap_alloc_cell W2 (.cells #[.int .i64 0, .int .i64 0, .string ⟨#[]⟩] 48) ⟨w.heap.size, 0, none⟩ hz).trans k0
    have l1 := (Below.heap_alloc_cell W2 (.cells #[.int .i64 0, .int .i64 0, .string ⟨#[]⟩] 48) ⟨w.heap.size, 1, none⟩ hz).trans k1
    have l2 := (Below.heap_alloc_cell W2 (.cells #[.int .i64 0, .int .i64 0, .string ⟨#[]⟩] 48) ⟨w.heap.size, 2, none⟩ hz).trans k2
    go_region
    go_wp2_with fail
    have hsz := spliced_size s ins x d hx hd
    have hyz : (s.extract x (x + d)).size = d := by rw [ByteArray.size_extract]; omega
    have hun := spliced_undo s ins x d hx
    obtain ⟨t, ht⟩ : ∃ t, spliced s x d ins = t := ⟨_, rfl⟩
    obtain ⟨y, hy⟩ : ∃ y, s.extract x (x + d) = y := ⟨_, rfl⟩
    rw [ht] at hsz hun ⊢
    rw [hy] at hyz hun ⊢
    have hY := heap_alloc_new W2 (.cells #[.int .i64 x, .int .i64 ins.size, .string y] 48)
    have hBY := ((Below.refl W2.heap.size W2).alloc (Nat.le_refl _) (.cells #[.int .i64 x, .int .i64 ins.size, .string y] 48)).drew
    have HSZ := Lib.hid hsz
    have HYZ := Lib.hid hyz
    have HUN := Lib.hid hun
    have HTT := Lib.hid ht
    clear hsz hyz hun ht hy l0 l1 l2 k0 k1 k2 s1 q0 q1 q2 hz
    generalize hW3 : (W2.alloc (.cells #[.int .i64 x, .int .i64 ins.size, .string y] 48)).drew = W3 at *
    have hY' : W3.heap[W2.heap.size]? = some (.cells #[.int .i64 x, .int .i64 ins.size, .string y] 48 (0, 0)) := by rw [← hW3]; exact hY
    have HY3 := Lib.hid hY'
    have H483 := Lib.hid (heap_bl H482.out hBY)
    have HB3 := Lib.hid (bt HB2.out hBY)
    clear hW3 hY hY' hBY H482 HB2 HB1
    refine (change_ok t y x ins.size (by have := HM.out; have := HSZ.out; have := HYZ.out; omega) (by have := HSZ.out; omega) (by have := HSZ.out; omega) _).mono ?_
    rintro e W4 ⟨rfl, hb4⟩
    rw [HUN.out]
    have HY4 := Lib.hid (heap_bl HY3.out hb4)
    have H484 := Lib.hid (heap_bl H483.out hb4)
    have HB4 := Lib.hid (bt HB3.out hb4)
    have HE4 := Lib.hid (HE.out.below HB4.out)
    clear hb4 HY3 H483 HB3
    go_wp2_with fail
    refine (pieces_good s hms _ HE4.out).mono ?_
    rintro e W5 ⟨pv, rfl, hown, hnil, hb5⟩
    have hpv := own_form hown
    have hlen := qGood_length s.data.toList
    have HO5 := Lib.hid hown
    have HN5 := Lib.hid (pn_read hown (by unfold maxLen; omega))
    have HY5 := Lib.hid (heap_bl HY4.out hb5)
    have H485 := Lib.hid (heap_bl H484.out hb5)
    have HB5 := Lib.hid (bt HB4.out hb5)
    have HE5 := Lib.hid (HE4.out.below hb5)
    clear hb5 HY4 H484 HB4 HE4 hown hnil
    obtain ⟨k0, k1, k2⟩ := cells3g H485.out
    go_wp2_with fail
    refine (update_any s ins x d pv _ (by have := HM.out; omega) _ HE5.out HN5.out).mono ?_
    rintro e W6 ⟨hup, hb6⟩
    have HY6 := Lib.hid (heap_bl HY5.out hb6)
    have HB6 := Lib.hid (bt HB5.out hb6)
    have HE6 := Lib.hid (HE5.out.below hb6)
    have HO6 := Lib.hid (owns_bl' HO5.out hb6)
    clear hb6 HY5 H485 HB5 HE5 HO5 k0 k1 k2
    have herr := qErr_zero s.data.toList
    cases her : ((qErr s.data.toList : Int) != 0)
    · have hnone : (qPieces s.data.toList).2 = none := herr.1 (by simp at her; omega)
      clear herr
      rcases hup with ⟨hno, rfl⟩ | ⟨_, _, ⟨hnf, rfl⟩ | ⟨x', d', hx', hd', _, _, ⟨h2, v, hv, _, rfl⟩ | ⟨er, i, h2, rfl⟩⟩⟩
      · exact absurd ⟨hnone, by rw [qGood_ok _ hnone]⟩ hno
      · exact absurd (show Fits s x d from ⟨by omega, by omega, by omega, by omega⟩) hnf
      · obtain rfl : x' = x := by omega
        obtain rfl : d' = d := by omega
        rw [HTT.out] at h2 hv ⊢
        generalize qKept _ _ _ = K
        obtain ⟨F, B⟩ := K
        simp only
        have hB7 := (Below.refl W6.heap.size W6).alloc (Nat.le_refl _) (.cells #[.int .i64 F, .int .i64 B] 53)
        have hlt := qPieces_length t.data.toList
        have hv7 := owns_bl' hv hB7
        have HN7 := Lib.hid (pn_read hv7 (by unfold maxLen; omega))
        have HY7 := Lib.hid (heap_bl HY6.out hB7)
        have HB7 := Lib.hid (bt HB6.out hB7)
        have HE7 := Lib.hid (HE6.out.below hB7)
        have HO7 := Lib.hid (owns_bl' HO6.out hB7)
        have HNONE := Lib.hid hnone
        have H2 := Lib.hid h2
        clear hv hv7 hB7 HY6 HB6 HE6 HO6 hnone h2
        obtain ⟨k0, k1, k2⟩ := cells3g HY7.out
        go_wp2_with fail
        refine (update_any t y x' ins.size v _ (by have := HM.out; have := HSZ.out; have := HYZ.out; omega) _ HE7.out HN7.out).mono ?_
        rintro e W8 ⟨hup, hb8⟩
        have HB8 := Lib.hid (bt HB7.out hb8)
        have HE8 := Lib.hid (HE7.out.below hb8)
        have HO8 := Lib.hid (owns_bl' HO7.out hb8)
        clear hb8 k0 k1 k2 HY7 HB7 HE7 HO7
        rcases hup with ⟨hno, rfl⟩ | ⟨_, _, ⟨hnf, rfl⟩ | ⟨x2, d2, hx2, hd2, _, _, ⟨h3, v2, hv2, _, rfl⟩ | ⟨er, i, h3, rfl⟩⟩⟩
        · exact absurd ⟨H2.out, rfl⟩ hno
        · exact absurd (show Fits t x' ins.size from ⟨by omega, by have := HSZ.out; omega, by omega, by have := HSZ.out; omega⟩) hnf
        · obtain rfl : x2 = x' := by omega
          obtain rfl : d2 = ins.size := by omega
          rw [HUN.out] at h3 hv2 ⊢
          generalize qKept _ _ _ = K2
          obtain ⟨F2, B2⟩ := K2
          simp only
          have hB9 := (Below.refl W8.heap.size W8).alloc (Nat.le_refl _) (.cells #[.int .i64 F2, .int .i64 B2] 53)
          have hls := qPieces_length s.data.toList
          have HA9 := Lib.hid (pn_read (owns_bl' hv2 hB9) (by unfold maxLen; omega))
          have hO9 := owns_bl' HO8.out hB9
          rw [qGood_ok _ h3] at hO9
          have HC9 := Lib.hid (pn_read hO9 (by unfold maxLen; omega))
          have HB9 := Lib.hid (bt HB8.out hB9)
          clear h3 hv2 hB9 hO9 HB8 HO8 HE8
          go_wp2_with fail
          refine (samePieces_any pv v2 _ _ HC9.out HA9.out).mono ?_
          rintro e W10 ⟨rfl, hb10⟩
          have HB10 := Lib.hid (bt HB9.out hb10)
          clear hb10
          go_wp2_with fail
          go_ret
          exact ⟨rfl, HB10.out⟩
        · obtain rfl : x2 = x' := by omega
          obtain rfl : d2 = ins.size := by omega
          rw [HUN.out, HNONE.out] at h3; cases h3
      · have hne : ((er : Int) != 0) = true := by have := qPieces_er _ _ h2; simp; omega
        clear hnone h2
        go_wp2_with fail
        go_ret
        exact ⟨rfl, (HB6.out).alloc HB6.out.size _⟩
    · have hnone : ¬ (qPieces s.data.toList).2 = none := fun h => by have := herr.2 h; simp [this] at her
      clear herr
      rcases hup with ⟨hno, rfl⟩ | ⟨hn, _⟩
      · clear hnone hno
        go_wp2_with fail
        go_ret
        exact ⟨rfl, (HB6.out).alloc HB6.out.size _⟩
      · exact absurd hn hnone
  · unfold SpV
    have HF := Lib.hid hf
    clear hf
    go_enter Tryd.func9, Tryd.ntmps9
    go_wp2_with fail
    refine (sane_any _ (HE.out.below BA)).mono ?_
    rintro e W1 ⟨rfl, hb1⟩
    obtain ⟨k0, k1, k2⟩ := cells3g (heap_bl (heap_alloc_new w (.cells #[.int .i64 x, .int .i64 d, .string ins] 48)) hb1)
    have HB1 := Lib.hid (bt BA hb1)
    clear hb1 BA
    go_wp2_with fail
    refine (change_bad s ins x d hms HF.out _).mono ?_
    rintro e W2 ⟨rfl, hb2⟩
    have HB2 := Lib.hid (bt HB1.out hb2)
    clear hb2
    go_wp2_with fail
    go_ret
    exact ⟨rfl, HB2.out⟩
end Go.Proofs.YtdfkkeeohbgmbaaDoor
