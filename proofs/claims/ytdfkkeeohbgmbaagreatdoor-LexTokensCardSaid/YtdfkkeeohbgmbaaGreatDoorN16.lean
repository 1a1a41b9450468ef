/- Tokens: what Pattern of the program and of the reference say. -/
import Derived.Test.YtdfkkeeohbgmbaaGreatDoorN15
namespace Go.Proofs.YtdfkkeeohbgmbaaGreatDoor
open Go.RowKit Lx

attribute [local go_sem] Oper.semAt_some

theorem at_list58 : (⟨#[58]⟩ : ByteArray).toList = [58] := by rw [whole_list]

set_option maxRecDepth 100000 in
set_option maxHeartbeats 4000000 in
/-- **stringslite.Index**, at the byte 58 -/
theorem indexAt_any58 (s : ByteArray) (w : World) : Calls Tryz.prog 83 #[.string s, .string ⟨#[58]⟩] w fun e W => e = .returned (.int .i64 (Lib.indexByte s.data.toList 58)) ∧ W = w := by
  cases h : ([58] == s.toList)
  · go_enter Tryz.func83, Tryz.ntmps83
    go_wp2_with fail
    refine (Tryz.stringslite_IndexByte s 58 _).mono ?_
    rintro e w1 ⟨rfl, rfl⟩
    go_wp2_with fail
    go_ret
    exact ⟨rfl, rfl⟩
  · have hr : Hid (Lib.indexByte s.data.toList 58 = 0) := Lib.hid (by
      rw [← whole_list, ← eq_of_beq h]; rfl)
    go_enter Tryz.func83, Tryz.ntmps83
    go_wp2_with fail
    go_ret
    exact ⟨by rw [hr.out]; rfl, rfl⟩
theorem cut_no58 {l : Bs} (h : Lib.indexByte l 58 < 0) : Lib.cut l [58] = (l, [], false) := by
  unfold Lib.cut
  rw [Lib.index_one, if_neg (by omega)]
theorem cut_yes58 {l : Bs} {k : Nat} (h : Lib.indexByte l 58 = k) : Lib.cut l [58] = (l.take k, l.drop (k + 1), true) := by
  unfold Lib.cut
  rw [Lib.index_one, h, if_pos (by omega)]
  rfl

set_option maxRecDepth 100000 in
set_option maxHeartbeats 4000000 in
/-- **stringslite.Cut**, at the byte 58 -/
theorem cutAt_any58 (s : ByteArray) (hm : s.size ≤ maxLen) (w : World) : Calls Tryz.prog 64 #[.string s, .string ⟨#[58]⟩] w fun e W => e = .returned (.tuple #[.string ⟨(Lib.cut s.data.toList [58]).1.toArray⟩, .string ⟨(Lib.cut s.data.toList [58]).2.1.toArray⟩, .bool (Lib.cut s.data.toList [58]).2.2]) ∧ ∃ n, W = w.drewN n := by
  by_cases hix : Lib.indexByte s.data.toList 58 < 0
  · have hs := Lib.hid (cut_no58 hix)
    have d : decide ((0 : Int) ≤ Lib.indexByte s.data.toList 58) = false := decide_eq_false (by omega)
    clear hix
    go_enter Tryz.func64, Tryz.ntmps64
    go_wp2_with fail
    refine (indexAt_any58 s _).mono ?_
    rintro e w1 ⟨rfl, rfl⟩
    go_wp2_with fail
    refine bodyPost_ret (v := .tuple #[.string s, .string ⟨#[]⟩, .bool false]) (by simp [results, Tryz.results64, go_sem]) rfl ⟨?_, 0, rfl⟩
    rw [hs.out, same_bytes]
  · have hroom := Lib.index_room s.data.toList [58] (by rw [Lib.index_one]; omega)
    rw [Lib.index_one] at hroom
    obtain ⟨k, hk⟩ : ∃ k : Nat, Lib.indexByte s.data.toList 58 = k := ⟨(Lib.indexByte s.data.toList 58).toNat, by omega⟩
    have hs := Lib.hid (cut_yes58 hk)
    rw [hk] at hroom
    simp only [List.length_singleton, Array.length_toList, ByteArray.size_data] at hroom
    have hm' : (s.size : Int) ≤ 9223372036854775807 := by unfold maxLen at hm; omega
    have q0 : (0 : Int) ≤ (k : Int) := by omega
    have q1 : (k : Int) ≤ (s.size : Int) := by omega
    have q2 : (0 : Int) ≤ (k : Int) + 1 := by omega
    have q3 : (k : Int) + 1 ≤ (s.size : Int) := by omega
    have HK := Lib.hid hk
    clear hk hix hroom
    go_enter Tryz.func64, Tryz.ntmps64
    go_wp2_with fail
    refine (indexAt_any58 s _).mono ?_
    rintro e w1 ⟨rfl, rfl⟩
    rw [HK.out]
    go_wp2_with fail
    go_big_quiet (fail)
    go_wp2_with fail
    refine bodyPost_ret (v := .tuple #[.string (s.extract 0 k), .string (s.extract (k + 1) s.size), .bool true]) (by simp [results, Tryz.results64, go_sem]) rfl ⟨?_, _, rfl⟩
    have e1 : (s.extract 0 k) = ⟨(s.data.toList.take k).toArray⟩ := by
      apply ByteArray.ext; apply Array.ext'; rw [extract_list]; simp
    have e2 : (s.extract (k + 1) s.size) = ⟨(s.data.toList.drop (k + 1)).toArray⟩ := by
      apply ByteArray.ext; apply Array.ext'; rw [extract_list, List.take_of_length_le (by simp)]
    rw [hs.out, e1, e2]

/-- **strings.Cut**, at the byte 58 -/
theorem stringsCut_any58 (s : ByteArray) (hm : s.size ≤ maxLen) (w : World) : Calls Tryz.prog 43 #[.string s, .string ⟨#[58]⟩] w fun e W => e = .returned (.tuple #[.string ⟨(Lib.cut s.data.toList [58]).1.toArray⟩, .string ⟨(Lib.cut s.data.toList [58]).2.1.toArray⟩, .bool (Lib.cut s.data.toList [58]).2.2]) ∧ ∃ n, W = w.drewN n := by
  obtain ⟨c1, c2, c3, hc⟩ : ∃ c1 c2 c3, Lib.cut s.data.toList [58] = (c1, c2, c3) := ⟨_, _, _, rfl⟩
  have h := cutAt_any58 s hm
  rw [hc] at h ⊢
  have H := Lib.hid h
  clear h hc
  go_enter Tryz.func43, Tryz.ntmps43
  go_wp2_with fail
  refine (H.out _).mono ?_
  rintro e w1 ⟨rfl, n, rfl⟩
  go_wp2_with fail
  refine bodyPost_ret (v := .tuple #[.string ⟨c1.toArray⟩, .string ⟨c2.toArray⟩, .bool c3]) (by simp [results, Tryz.results43, go_sem]) rfl ⟨rfl, n, rfl⟩

/-- The name and the kind of a pattern variable. -/
def patS (t : Tok) : Bs × Bs := if t.kind = 6 ∧ tokOk t = true then ((Lib.cut (t.text.data.toList.drop 1) [58]).1, (Lib.cut (t.text.data.toList.drop 1) [58]).2.1) else ([], [])
theorem pat_front {l : Bs} (h : qKind l = 6) : l.head? = some 63 := by
  have hb := qKind_small l (by omega)
  have h0 : 0 < l.length := by
    rcases Nat.eq_zero_or_pos l.length with h0 | h0
    · rw [kind_none h0] at h; cases h
    · exact h0
  obtain ⟨er, kind, len, hn⟩ : ∃ er kind len, qNext l 0 false = ⟨er, kind, len⟩ := ⟨_, _, _, rfl⟩
  rw [kind_next h0 hb hn] at h
  by_cases her : er = 0
  · subst her
    rw [if_neg (by simp)] at h
    by_cases hc : kind < 7 ∧ len = l.length
    · rw [if_pos hc] at h
      subst h
      have hl := next_tok hn (by omega)
      rcases longest_kind hl with ⟨_, hk0⟩ | ⟨hN, j, hj, hj1, hj2⟩
      · cases hk0
      · obtain rfl : j = 5 := by omega
        have hp : qPat ((l.drop 0).take 100) = len := hj2
        by_cases hh : ((l.drop 0).take 100).head? = some 63
        · rw [List.drop_zero, List.head?_take, if_neg (by omega)] at hh; exact hh
        · rw [qPat_0 _ (by simpa using hh)] at hp; omega
    · rw [if_neg hc] at h; cases h
  · rw [if_pos her] at h; cases h
theorem tok_kind {t : Tok} (h : tokOk t = true) : (qKind t.text.data.toList : Int) = t.kind := by
  unfold tokOk at h
  simp only [Bool.and_eq_true, Bool.not_eq_true', bne_eq_false_iff_eq] at h
  exact h.1.1.1.2
theorem idx_drop {l : Bs} (h : l.head? = some 63) : Lib.indexByte l 58 = if Lib.indexByte (l.drop 1) 58 < 0 then -1 else Lib.indexByte (l.drop 1) 58 + 1 := by
  match l, h with
  | a :: t, h =>
    simp at h; subst h
    simp only [Lib.indexByte, List.drop_succ_cons, List.drop_zero]
    rw [if_neg (by decide)]
    have hge := Lib.index_ge t [58]
    rw [Lib.index_one] at hge
    by_cases hm : Lib.indexByte t 58 = -1
    · rw [hm]; rfl
    · rw [if_neg (by simpa using hm), if_neg (by omega)]

set_option maxRecDepth 100000 in
set_option maxHeartbeats 8000000 in
/-- **Pattern** -/
theorem pattern_tok (t : Tok) (hm : t.text.size ≤ maxLen) (w : World) (he : Env w) :
    Calls Tryz.prog 27 #[TokV t] w fun e W => e = .returned (.tuple #[.string ⟨(patS t).1.toArray⟩, .string ⟨(patS t).2.toArray⟩]) ∧ Below w.heap.size w W := by
  have hb0 := (Below.refl w.heap.size w).alloc (Nat.le_refl _) (.cells (tokC t) 51)
  have hC0 := heap_alloc_new w (.cells (tokC t) 51)
  have HB0 := Lib.hid hb0
  have HC0 := Lib.hid hC0
  have HE0 := Lib.hid (he.below hb0)
  have HCK := Lib.hid (fun W (hE : Env W) => check_tok t hm W hE)
  obtain ⟨a, b, hab⟩ : ∃ a b, patS t = (a, b) := ⟨_, _, rfl⟩
  rw [hab]
  have HAB := Lib.hid hab
  have HM := Lib.hid hm
  clear hb0 he hm hab hC0
  by_cases h6 : t.kind = 6
  · have d6 : (t.kind != 6) = false := by simpa using h6
    cases hok : tokOk t
    · have hp : patS t = ([], []) := if_neg (by rw [hok]; simp)
      rw [HAB.out] at hp
      cases hp
      have HE14 := Lib.hid (tokEr_no hok)
      obtain ⟨tk, tn, tx, ta, tm⟩ := t
      unfold TokV tokC at *
      simp only at *
      subst h6
      go_enter Tryz.func27, Tryz.ntmps27
      go_wp2_with fail
      refine (HCK.out _ HE0.out).mono ?_
      rintro e w1 ⟨rfl, hb1⟩
      rw [HE14.out]
      go_wp2_with fail
      refine bodyPost_ret (v := .tuple #[.string ⟨#[]⟩, .string ⟨#[]⟩]) (by simp [results, Tryz.results27, go_sem]) rfl ⟨rfl, bt HB0.out hb1⟩
    · have hp : patS t = ((Lib.cut (t.text.data.toList.drop 1) [58]).1, (Lib.cut (t.text.data.toList.drop 1) [58]).2.1) := if_pos ⟨h6, hok⟩
      rw [HAB.out] at hp
      have hk : qKind t.text.data.toList = 6 := by have := tok_kind hok; omega
      have hf := pat_front hk
      have h1 : 1 ≤ t.text.size := by
        have : t.text.data.toList ≠ [] := fun e => by rw [e] at hf; cases hf
        have h9 := List.length_pos_iff.2 this
        have h10 : 0 < t.text.size := by simpa using h9
        exact h10
      have HP := Lib.hid hp
      have HE14 := Lib.hid (tokEr_ok hok)
      obtain ⟨tk, tn, tx, ta, tm⟩ := t
      unfold TokV tokC at *
      simp only at *
      subst h6
      have i1 : (1 : Int) ≤ (tx.size : Int) := by omega
      have hx : (tx.extract 1 tx.size).data.toList = tx.data.toList.drop 1 := by
        rw [extract_list, List.take_of_length_le (by simp)]
      have hxs : (tx.extract 1 tx.size).size ≤ maxLen := by rw [ByteArray.size_extract]; have := HM.out; omega
      have hcu := fun W => stringsCut_any58 (tx.extract 1 tx.size) hxs W
      rw [hx] at hcu
      obtain ⟨c1, c2, c3, hc⟩ : ∃ c1 c2 c3, Lib.cut (tx.data.toList.drop 1) [58] = (c1, c2, c3) := ⟨_, _, _, rfl⟩
      rw [hc] at hcu hp
      have HCU := Lib.hid hcu
      cases hp
      clear hcu hc hx hxs hf hk h1 HP
      go_enter Tryz.func27, Tryz.ntmps27
      go_wp2_with fail
      refine (HCK.out _ HE0.out).mono ?_
      rintro e w1 ⟨rfl, hb1⟩
      rw [HE14.out]
      have hC1 := (hb1.block w.heap.size (by rw [World.size_alloc]; omega)).trans HC0.out
      have m2 : w1.cell? ⟨w.heap.size, 2, none⟩ = some (.string tx) := by rw [cell_of_row _ _ _ _ _ _ hC1]; rfl
      have HB1 := Lib.hid (bt HB0.out hb1)
      clear hC1 hb1
      go_wp2_with fail
      refine (HCU.out _).mono ?_
      rintro e w2 ⟨rfl, n, rfl⟩
      go_wp2_with fail
      refine bodyPost_ret (v := .tuple #[.string ⟨c1.toArray⟩, .string ⟨c2.toArray⟩]) (by simp [results, Tryz.results27, go_sem]) rfl ⟨rfl, bt HB1.out (bl _ _)⟩
  · have d6 : (t.kind != 6) = true := by simpa using h6
    have hp : patS t = ([], []) := if_neg (fun h => h6 h.1)
    rw [HAB.out] at hp
    cases hp
    obtain ⟨tk, tn, tx, ta, tm⟩ := t
    unfold TokV tokC at *
    simp only at *
    go_enter Tryz.func27, Tryz.ntmps27
    go_wp2_with fail
    refine bodyPost_ret (v := .tuple #[.string ⟨#[]⟩, .string ⟨#[]⟩]) (by simp [results, Tryz.results27, go_sem]) rfl ⟨rfl, HB0.out⟩

set_option maxRecDepth 100000 in
set_option maxHeartbeats 8000000 in
/-- **Pattern** of the reference -/
theorem refPattern_tok (t : Tok) (hm : t.text.size ≤ maxLen) (w : World) :
    Calls Tryz.prog 28 #[TokV t] w fun e W => e = .returned (.tuple #[.string ⟨(patS t).1.toArray⟩, .string ⟨(patS t).2.toArray⟩]) ∧ Below w.heap.size w W := by
  have hb0 := (Below.refl w.heap.size w).alloc (Nat.le_refl _) (.cells (tokC t) 51)
  have hC0 := heap_alloc_new w (.cells (tokC t) 51)
  have HB0 := Lib.hid hb0
  have HC0 := Lib.hid hC0
  have HCK := Lib.hid (fun W => refCheck_tok t hm W)
  obtain ⟨a, b, hab⟩ : ∃ a b, patS t = (a, b) := ⟨_, _, rfl⟩
  rw [hab]
  have HAB := Lib.hid hab
  have HM := Lib.hid hm
  clear hb0 hm hab hC0
  by_cases h6 : t.kind = 6
  · have d6 : (t.kind != 6) = false := by simpa using h6
    cases hok : tokOk t
    · have hp : patS t = ([], []) := if_neg (by rw [hok]; simp)
      rw [HAB.out] at hp
      cases hp
      have HE14 := Lib.hid (tokEr_no hok)
      obtain ⟨tk, tn, tx, ta, tm⟩ := t
      unfold TokV tokC at *
      simp only at *
      subst h6
      go_enter Tryz.func28, Tryz.ntmps28
      go_wp2_with fail
      refine (HCK.out _).mono ?_
      rintro e w1 ⟨rfl, hb1⟩
      rw [HE14.out]
      go_wp2_with fail
      refine bodyPost_ret (v := .tuple #[.string ⟨#[]⟩, .string ⟨#[]⟩]) (by simp [results, Tryz.results28, go_sem]) rfl ⟨rfl, bt HB0.out hb1⟩
    · have hp : patS t = ((Lib.cut (t.text.data.toList.drop 1) [58]).1, (Lib.cut (t.text.data.toList.drop 1) [58]).2.1) := if_pos ⟨h6, hok⟩
      rw [HAB.out] at hp
      have hk : qKind t.text.data.toList = 6 := by have := tok_kind hok; omega
      have hf := pat_front hk
      have h1 : 1 ≤ t.text.size := by
        have : t.text.data.toList ≠ [] := fun e => by rw [e] at hf; cases hf
        have h9 := List.length_pos_iff.2 this
        have h10 : 0 < t.text.size := by simpa using h9
        exact h10
      have hid := idx_drop hf
      have HE14 := Lib.hid (tokEr_ok hok)
      obtain ⟨tk, tn, tx, ta, tm⟩ := t
      unfold TokV tokC at *
      simp only at *
      subst h6
      have i1 : (1 : Int) ≤ (tx.size : Int) := by omega
      by_cases hix : Lib.indexByte (tx.data.toList.drop 1) 58 < 0
      · rw [cut_no58 hix] at hp
        rw [if_pos hix] at hid
        have HID := Lib.hid hid
        have HP := Lib.hid hp
        clear hid hp hf hk hix
        go_enter Tryz.func28, Tryz.ntmps28
        go_wp2_with fail
        refine (HCK.out _).mono ?_
        rintro e w1 ⟨rfl, hb1⟩
        rw [HE14.out]
        have hC1 := (hb1.block w.heap.size (by rw [World.size_alloc]; omega)).trans HC0.out
        have m2 : w1.cell? ⟨w.heap.size, 2, none⟩ = some (.string tx) := by rw [cell_of_row _ _ _ _ _ _ hC1]; rfl
        have HB1 := Lib.hid (bt HB0.out hb1)
        clear hC1 hb1
        go_wp2_with fail
        refine (find_any tx 58 HM.out _).mono ?_
        rintro e w2 ⟨rfl, rfl⟩
        rw [HID.out]
        go_wp2_with fail
        refine bodyPost_ret (v := .tuple #[.string (tx.extract 1 tx.size), .string ⟨#[]⟩]) (by simp [results, Tryz.results28, go_sem]) rfl ⟨?_, HB1.out⟩
        have e1 : (tx.extract 1 tx.size) = ⟨(tx.data.toList.drop 1).toArray⟩ := by
          apply ByteArray.ext; apply Array.ext'; rw [extract_list, List.take_of_length_le (by simp)]
        have hP := HP.out
        cases hP
        rw [e1]
      · obtain ⟨k, hk2⟩ : ∃ k : Nat, Lib.indexByte (tx.data.toList.drop 1) 58 = k := ⟨(Lib.indexByte (tx.data.toList.drop 1) 58).toNat, by omega⟩
        have hroom := Lib.index_room (tx.data.toList.drop 1) [58] (by rw [Lib.index_one]; omega)
        rw [Lib.index_one, hk2] at hroom
        simp only [List.length_singleton, List.length_drop, Array.length_toList, ByteArray.size_data] at hroom
        rw [cut_yes58 hk2] at hp
        rw [if_neg hix, hk2] at hid
        have hm' : (tx.size : Int) ≤ 9223372036854775807 := by have := HM.out; unfold maxLen at this; omega
        have q0 : (1 : Int) ≤ (k : Int) + 1 := by omega
        have q1 : (k : Int) + 1 ≤ (tx.size : Int) := by omega
        have q2 : (0 : Int) ≤ (k : Int) + 1 + 1 := by omega
        have q3 : (k : Int) + 1 + 1 ≤ (tx.size : Int) := by omega
        have HID := Lib.hid hid
        have HP := Lib.hid hp
        clear hid hp hf hk hix hk2 hroom
        go_enter Tryz.func28, Tryz.ntmps28
        go_wp2_with fail
        refine (HCK.out _).mono ?_
        rintro e w1 ⟨rfl, hb1⟩
        rw [HE14.out]
        have hC1 := (hb1.block w.heap.size (by rw [World.size_alloc]; omega)).trans HC0.out
        have m2 : w1.cell? ⟨w.heap.size, 2, none⟩ = some (.string tx) := by rw [cell_of_row _ _ _ _ _ _ hC1]; rfl
        have HB1 := Lib.hid (bt HB0.out hb1)
        clear hC1 hb1
        go_wp2_with fail
        refine (find_any tx 58 HM.out _).mono ?_
        rintro e w2 ⟨rfl, rfl⟩
        rw [HID.out]
        go_wp2_with fail
        go_big_quiet (fail)
        go_wp2_with fail
        refine bodyPost_ret (v := .tuple #[.string (tx.extract 1 (k + 1)), .string (tx.extract (k + 1 + 1) tx.size)]) (by simp [results, Tryz.results28, go_sem]) rfl ⟨?_, bt HB1.out (bl _ _)⟩
        have e1 : (tx.extract 1 (k + 1)) = ⟨((tx.data.toList.drop 1).take k).toArray⟩ := by
          apply ByteArray.ext; apply Array.ext'; rw [extract_list, Nat.add_sub_cancel]
        have e2 : (tx.extract (k + 1 + 1) tx.size) = ⟨((tx.data.toList.drop 1).drop (k + 1)).toArray⟩ := by
          apply ByteArray.ext; apply Array.ext'; rw [extract_list, List.take_of_length_le (by simp), List.drop_drop]; congr 1; omega
        have hP := HP.out
        cases hP
        rw [e1, e2]
  · have d6 : (t.kind != 6) = true := by simpa using h6
    have hp : patS t = ([], []) := if_neg (fun h => h6 h.1)
    rw [HAB.out] at hp
    cases hp
    obtain ⟨tk, tn, tx, ta, tm⟩ := t
    unfold TokV tokC at *
    simp only at *
    go_enter Tryz.func28, Tryz.ntmps28
    go_wp2_with fail
    refine bodyPost_ret (v := .tuple #[.string ⟨#[]⟩, .string ⟨#[]⟩]) (by simp [results, Tryz.results28, go_sem]) rfl ⟨rfl, HB0.out⟩
end Go.Proofs.YtdfkkeeohbgmbaaGreatDoor
