/- Package lex: Mod, gap and Same. -/
import Derived.Test.YtdfkkeeohbgmbaaDoorB2
import Derived.Test.YtdfkkeeohbgmbaaDoorA42
namespace Go.Proofs.YtdfkkeeohbgmbaaDoor
open Go.RowKit Lx

attribute [local go_sem] Oper.semAt_some

set_option maxHeartbeats 1000000 in
/-- **Mod** -/
theorem mod_any (n : Int) (m : Nat) (hm : 1 ≤ m) (hm2 : m ≤ 20000) (w : World) :
    Calls Tryd.prog 21 #[.int .i64 n, .int .i64 m] w fun e W => (∃ k : Nat, k < m ∧ e = .returned (.int .i64 k)) ∧ w = W := by
  obtain ⟨r, hr⟩ : ∃ r, n.tmod (m : Int) = r := ⟨_, rfl⟩
  have r1 : -(m : Int) < r := by have h := Int.tmod_lt_of_pos (-n) (b := (m : Int)) (by omega); rw [Int.neg_tmod, hr] at h; omega
  have r2 : r < (m : Int) := by rw [← hr]; exact Int.tmod_lt_of_pos n (by omega)
  have hz : ((m : Int) == 0) = false := by simp; omega
  have hz2 : ¬ (m : Int) = 0 := by omega
  cases hn : decide (r < 0)
  · have hn' : 0 ≤ r := by simpa using hn
    go_enter Tryd.func21, Tryd.ntmps21
    go_wp2_with fail
    go_ret
    exact ⟨⟨r.toNat, by omega, by rw [show ((r.toNat : Nat) : Int) = r by omega]; rfl⟩, rfl⟩
  · have hn' : r < 0 := by simpa using hn
    go_enter Tryd.func21, Tryd.ntmps21
    go_wp2_with fail
    go_ret
    exact ⟨⟨(r + m).toNat, by omega, by rw [show (((r + m).toNat : Nat) : Int) = r + m by omega]; rfl⟩, rfl⟩

/-- The bytes that gap keeps. -/
def gapK (c : UInt8) : Bool := c != 42 && c != 47
theorem gapK_ok {l : Bs} : ∀ c ∈ l.filter gapK, c ≠ 42 ∧ c ≠ 47 := by
  intro c hc
  have := (List.mem_filter.1 hc).2
  unfold gapK at this
  simpa using this

theorem filter_snoc (l : Bs) (k : Nat) (c : UInt8) (h : l[k]? = some c) : (l.take (k + 1)).filter gapK = (l.take k).filter gapK ++ (if gapK c = true then [c] else []) := by
  rw [List.take_add_one, h, List.filter_append]
  congr 1
  cases h' : gapK c <;> simp [h']

theorem byte_at (s : ByteArray) (k : Nat) (h : k < s.size) : s.data.toList[k]? = some s[k] := by
  rw [List.getElem?_eq_getElem (by simpa using h)]; rfl

theorem ne_byte (b c : UInt8) : (b != c) = ((b.toNat : Int) != (c.toNat : Int)) := by
  rw [Bool.eq_iff_iff, bne_iff_ne, bne_iff_ne]
  exact ⟨fun h e => h (UInt8.toNat_inj.1 (by omega)), fun h e => h (by rw [e])⟩

theorem ext_one (s : ByteArray) (k : Nat) (h : k < s.size) : (s.extract k (k + 1)).data.toList = [s[k]] := by
  rw [ext_sub, show k + 1 - k = 1 by omega, List.drop_eq_getElem_cons (by simpa using h)]; rfl

set_option maxRecDepth 100000 in
set_option maxHeartbeats 2000000 in
/-- **gap** -/
theorem gap_any (s : ByteArray) (hm : s.size ≤ maxLen) (w : World) :
    Calls Tryd.prog 22 #[.string s] w fun e W => (∃ t : ByteArray, e = .returned (.string t) ∧ t.data.toList = gapOf ((s.data.toList.take 40).filter gapK) ∧ t.size ≤ 48) ∧ w = W := by
  unfold maxLen at hm
  go_enter Tryd.func22, Tryd.ntmps22
  go_wp2_with fail
  go_loop [3, 4] (fun o x => ∃ (k : Nat) (t : ByteArray), k ≤ s.size ∧ k ≤ 40 ∧ o = .string t ∧ x = .int .i64 k ∧ t.size ≤ 4 + k ∧ Hid (t.data.toList = [32, 47, 42, 32] ++ (s.data.toList.take k).filter gapK)) (fun _ x => 40 - (intOf x).toNat)
  case atStart => exact ⟨0, _, by omega, by omega, rfl, rfl, by decide, Lib.hid (by simp)⟩
  case round =>
    obtain ⟨k, t, hk, hk40, rfl, rfl, htz, HT⟩ := hrel
    by_cases hlt : k < s.size ∧ k < 40
    · obtain ⟨h1, h2⟩ := hlt
      have d1 : decide (k < s.size) = true := by simpa using h1
      have d2 : decide ((k : Int) < 40) = true := by simp; omega
      have i0 : (0 : Int) ≤ (k : Int) := by omega
      have i1 : (k : Int) < (s.size : Int) := by omega
      have hb := filter_snoc s.data.toList k s[k] (byte_at s k h1)
      have he := ext_one s k h1
      have hg : gapK s[k] = (((s[k].toNat : Int) != 42) && ((s[k].toNat : Int) != 47)) := by unfold gapK; rw [ne_byte, ne_byte]; rfl
      have HB := Lib.hid hb
      have HX := Lib.hid he
      have HG := Lib.hid hg
      have hez : (s.extract k (k + 1)).size ≤ 1 := by rw [ByteArray.size_extract]; omega
      clear hb he hg
      cases c1 : ((s[k].toNat : Int) != 42)
      · have hno : Hid (gapK s[k] = false) := Lib.hid (by rw [HG.out, c1]; rfl)
        go_wp2_with fail
        go_round
        case rel => exact ⟨k + 1, t, by omega, by omega, rfl, rfl, by omega, Lib.hid (by rw [HB.out, hno.out, HT.out]; simp)⟩
        case measure => simp [intOf]; omega
      · cases c2 : ((s[k].toNat : Int) != 47)
        · have hno : Hid (gapK s[k] = false) := Lib.hid (by rw [HG.out, c1, c2]; rfl)
          go_wp2_with fail
          go_round
          case rel => exact ⟨k + 1, t, by omega, by omega, rfl, rfl, by omega, Lib.hid (by rw [HB.out, hno.out, HT.out]; simp)⟩
          case measure => simp [intOf]; omega
        · have hyes : Hid (gapK s[k] = true) := Lib.hid (by rw [HG.out, c1, c2]; rfl)
          go_wp2_with fail
          go_round
          case rel => exact ⟨k + 1, _, by omega, by omega, rfl, rfl, by rw [ByteArray.size_append]; omega, Lib.hid (by rw [extract_append, HB.out, hyes.out, HT.out, HX.out]; simp)⟩
          case measure => simp [intOf]; omega
    · have htk : Hid (s.data.toList.take k = s.data.toList.take 40) := Lib.hid (by
        by_cases h40 : k = 40
        · rw [h40]
        · rw [List.take_of_length_le (by simp; omega), List.take_of_length_le (by simp; omega)])
      have hend : ∀ u : ByteArray, u.data.toList = t.data.toList ++ [32, 42, 47, 32] → u.data.toList = gapOf ((s.data.toList.take 40).filter gapK) := by
        intro u hu
        rw [hu, HT.out, htk.out]; simp [gapOf]
      have HEND := Lib.hid hend
      clear hend
      have fin : (t ++ ⟨#[32, 42, 47, 32]⟩ : ByteArray).size ≤ 48 := by rw [ByteArray.size_append]; show t.size + 4 ≤ 48; omega
      have FIN := Lib.hid fin
      clear fin
      by_cases h1 : k < s.size
      · have d1 : decide (k < s.size) = true := by simpa using h1
        have d2 : decide ((k : Int) < 40) = false := by simp; omega
        go_wp2_with fail
        go_ret
        exact ⟨⟨_, rfl, HEND.out _ (extract_append _ _), FIN.out⟩, rfl⟩
      · have d1 : decide (k < s.size) = false := by simpa using h1
        go_wp2_with fail
        go_ret
        exact ⟨⟨_, rfl, HEND.out _ (extract_append _ _), FIN.out⟩, rfl⟩

/-- What gap answers. -/
def gapS (s : ByteArray) : ByteArray := ⟨(gapOf ((s.data.toList.take 40).filter gapK)).toArray⟩
theorem gapS_list (s : ByteArray) : (gapS s).data.toList = gapOf ((s.data.toList.take 40).filter gapK) := by unfold gapS; simp
theorem gapS_size (s : ByteArray) : (gapS s).size ≤ 48 := by
  have h := congrArg List.length (gapS_list s)
  have h2 := List.length_filter_le gapK (s.data.toList.take 40)
  rw [List.length_take] at h2
  simp only [Array.length_toList, ByteArray.size_data, gapOf, List.length_cons, List.length_append, List.length_nil] at h
  omega
theorem gapS_any (s : ByteArray) (hm : s.size ≤ maxLen) (w : World) :
    Calls Tryd.prog 22 #[.string s] w fun e W => e = .returned (.string (gapS s)) ∧ w = W := by
  refine (gap_any s hm w).mono ?_
  rintro e W ⟨⟨t, rfl, ht, _⟩, rfl⟩
  refine ⟨?_, rfl⟩
  have : t = gapS s := by
    have h2 := gapS_list s
    rw [← ht] at h2
    cases t; simp [gapS] at h2 ⊢
    rw [h2, Array.toArray_toList]
  rw [this]

theorem comment_len {l : Bs} {i : Nat} {op : Bool} (h0 : (qNext l i op).er = 0) (hk : (qNext l i op).kind = 8) : 2 ≤ (qNext l i op).len := by
  obtain ⟨c0, ⟨hp, he⟩ | ⟨hp, hb, he⟩ | ⟨hp, hb, he, hck⟩⟩ := comment_kind h0
  · rw [he]
    show 2 ≤ (qComment (l.drop i)).2
    unfold qComment at c0 hp ⊢
    split
    · rename_i ht
      rw [if_pos ht] at hp
      simp only at hp ⊢
      match hd : l.drop i, ht with
      | [], ht => simp at ht
      | [y], ht => simp at ht
      | y :: z :: v, ht =>
        rw [hd] at hp
        simp at ht
        obtain ⟨rfl, rfl⟩ := ht
        split
        · rename_i hge
          rw [if_pos hge] at hp
          rcases Nat.lt_or_ge (Lib.indexByte (47 :: 47 :: v) 10).toNat 2 with h2 | h2
          · exfalso
            have hx := index_at _ 10 hge
            have : (Lib.indexByte (47 :: 47 :: v) 10).toNat = 1 := by omega
            rw [this] at hx; simp at hx
          · exact h2
        · simp
    · rename_i ht
      rw [if_neg ht] at c0 hp
      split
      · rename_i ht2
        rw [if_pos ht2] at c0
        have := nest_ge (l.drop i) 0 0 c0
        have hn' : (qNestGo (l.drop i) 0 0).2 = (qNest (l.drop i)).2 := rfl
        omega
      · rename_i ht2
        rw [if_neg ht2] at hp
        simp at hp
  · rw [he] at hk; simp at hk
  · obtain ⟨_, h6⟩ := qLongest_le ((l.drop i).take 100) op
    rw [he] at hk; simp only at hk; omega

/-- A slice of tokens, of which the kinds, numbers and texts are read. -/
def TkRead (W : World) (v : Value) (ts : List (Int × Int × ByteArray)) : Prop :=
  ∃ a c, v = .slice a ts.length c ∧ (ts.length ≤ 20000 ∧ ts.length ≤ c) ∧ ∀ k p, ts[k]? = some p → ∃ g o, a = some ⟨g, o, none⟩ ∧ g < W.heap.size ∧ W.cell? ⟨g, o + k * 5, none⟩ = some (.int .i64 p.1) ∧ W.cell? ⟨g, o + k * 5 + 1, none⟩ = some (.int .i64 p.2.1) ∧ W.cell? ⟨g, o + k * 5 + 2, none⟩ = some (.string p.2.2)

/-- What Same looks at. -/
def tk3 (s : ByteArray) (p : Pc) : Int × Int × ByteArray := (p.kind, qValue p.kind ((s.data.toList.drop p.at_).take p.len), pcText s p)

theorem tk_read {W : World} {base n : Nat} {v : Value} {s : ByteArray} {ps : List Pc} (h : W.ownsRow base 39 5 v n (tksCells s ps)) (hm : n ≤ 20000) : TkRead W v (ps.map (tk3 s)) := by
  have hl := h.1
  rw [tksCells_len] at hl
  have hn : ps.length = n := by omega
  rcases h.2 with ⟨rfl, h0⟩ | ⟨g, cap, cur, rfl, hg, hgb, hcp, _⟩
  · obtain rfl : ps = [] := List.eq_nil_of_length_eq_zero (by omega)
    exact ⟨none, 0, rfl, ⟨by simp, by simp⟩, fun k p hk => by simp at hk⟩
  · refine ⟨some ⟨g, 0, none⟩, cap, by rw [List.length_map, hn], ⟨by rw [List.length_map]; omega, by rw [List.length_map]; omega⟩, fun k p hk => ?_⟩
    rw [List.getElem?_map, Option.map_eq_some_iff] at hk
    obtain ⟨q, hq, rfl⟩ := hk
    obtain ⟨c0, c1, c2, _, _⟩ := owns_tk h hq
    exact ⟨g, 0, rfl, (Array.getElem?_eq_some_iff.1 hgb).1, by simpa [tk3] using c0, by simpa [tk3] using c1, by simpa [tk3] using c2⟩

set_option maxRecDepth 100000 in
set_option maxHeartbeats 4000000 in
/-- **Same**, of the same tokens -/
theorem same_any (va vb : Value) (xs : List (Int × Int × ByteArray)) (w : World) (ha : TkRead w va xs) (hb : TkRead w vb xs) :
    Calls Tryd.prog 20 #[va, vb] w fun e W => e = .returned (.bool true) ∧ Below w.heap.size w W := by
  obtain ⟨aa, ca, rfl, hma, hra⟩ := ha
  obtain ⟨ab, cb, rfl, hmb, hrb⟩ := hb
  have HA := Lib.hid hra
  have HB := Lib.hid hrb
  clear hra hrb
  obtain ⟨n, hn⟩ : ∃ n, xs.length = n := ⟨_, rfl⟩
  rw [hn] at hma hmb ⊢
  have HN := Lib.hid hn
  clear hn
  go_enter Tryd.func20, Tryd.ntmps20
  go_wp2_with fail
  go_loopw [5, 6] (fun o x wr => ∃ k : Nat, k ≤ n ∧ o = .bool true ∧ x = .int .i64 k ∧ Below w.heap.size w wr) (fun _ x _ => n - (intOf x).toNat)
  case atStart => exact ⟨0, by omega, by simp, rfl, Below.refl _ _⟩
  case round =>
    obtain ⟨k, hk, rfl, rfl, hbw⟩ := hrel
    by_cases hlt : k < n
    · obtain ⟨p, hp⟩ : ∃ p, xs[k]? = some p := ⟨_, List.getElem?_eq_getElem (by have := HN.out; omega)⟩
      obtain ⟨ga, oa, rfl, hga, a0, a1, a2⟩ := HA.out k p hp
      obtain ⟨gb, ob, rfl, hgb, b0, b1, b2⟩ := HB.out k p hp
      obtain ⟨p0, p1, p2⟩ := p
      have a0 := (hbw.cell (p := ⟨ga, _, none⟩) hga).trans a0
      have a1 := (hbw.cell (p := ⟨ga, _, none⟩) hga).trans a1
      have a2 := (hbw.cell (p := ⟨ga, _, none⟩) hga).trans a2
      have b0 := (hbw.cell (p := ⟨gb, _, none⟩) hgb).trans b0
      have b1 := (hbw.cell (p := ⟨gb, _, none⟩) hgb).trans b1
      have b2 := (hbw.cell (p := ⟨gb, _, none⟩) hgb).trans b2
      have hk0 : (0 : Int) ≤ (k : Int) := by omega
      have hk1 : (k : Int) < (n : Int) := by omega
      have hd : decide (k < n) = true := by simpa using hlt
      have e0 : (p0 == p0) = true := by simp
      have e1 : (p1 == p1) = true := by simp
      have e2 : (p2.toList == p2.toList) = true := by simp
      clear hp
      go_wp2_with fail
      go_quiet (fail)
      go_wp2_with fail
      go_roundw
      case rel => exact ⟨k + 1, by omega, rfl, rfl, below_drewN hbw _⟩
      case measure => simp [intOf]; omega
    · have hd : decide (k < n) = false := by simpa using hlt
      go_wp2_with fail
      go_ret
      exact ⟨rfl, hbw⟩
end Go.Proofs.YtdfkkeeohbgmbaaDoor
