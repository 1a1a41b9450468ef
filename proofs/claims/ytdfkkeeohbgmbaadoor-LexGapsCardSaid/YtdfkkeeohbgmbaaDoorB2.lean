/- Package lex: the walk of LexLongest. -/
import Derived.Test.YtdfkkeeohbgmbaaDoorB1
import Derived.Test.YtdfkkeeohbgmbaaDoorA36
namespace Go.Proofs.YtdfkkeeohbgmbaaDoor
open Go.RowKit Lx

attribute [local go_sem] Oper.semAt_some

theorem tksCells_at (s : ByteArray) : ∀ (ps : List Pc) (k : Nat) (p : Pc) (j : Nat), ps[k]? = some p → j < 5 → (tksCells s ps)[k * 5 + j]? = (tkCells s p)[j]?
  | [], k, p, j, h, _ => by simp at h
  | q :: r, 0, p, j, h, hj => by
    simp at h; subst h
    simp only [tksCells, Nat.zero_mul, Nat.zero_add]
    rw [List.getElem?_append_left (by simp [tkCells]; omega)]
  | q :: r, k + 1, p, j, h, hj => by
    simp only [tksCells]
    rw [List.getElem?_append_right (by simp [tkCells]; omega)]
    have : (k + 1) * 5 + j - (tkCells s q).length = k * 5 + j := by simp [tkCells]; omega
    rw [this]
    exact tksCells_at s r k p j (by simpa using h) hj

/-- The cells of a token in a row of tokens. -/
theorem owns_tk {W : World} {base g n cap : Nat} {s : ByteArray} {ps : List Pc} (h : W.ownsRow base 39 5 (.slice (some ⟨g, 0, none⟩) n cap) n (tksCells s ps)) {k : Nat} {p : Pc} (hp : ps[k]? = some p) :
    W.cell? ⟨g, k * 5, none⟩ = some (.int .i64 p.kind) ∧ W.cell? ⟨g, k * 5 + 1, none⟩ = some (.int .i64 (qValue p.kind ((s.data.toList.drop p.at_).take p.len))) ∧ W.cell? ⟨g, k * 5 + 2, none⟩ = some (.string (pcText s p)) ∧ W.cell? ⟨g, k * 5 + 3, none⟩ = some (.int .i64 p.at_) ∧ W.cell? ⟨g, k * 5 + 4, none⟩ = some (.int .i64 0) := by
  obtain ⟨hk, _⟩ := List.getElem?_eq_some_iff.1 hp
  have hl := tksCells_len s ps
  have hl2 := h.1
  have key : ∀ j, j < 5 → W.cell? ⟨g, k * 5 + j, none⟩ = (tkCells s p)[j]? := by
    intro j hj
    have h1 := tksCells_at s ps k p j hp hj
    have h2 := h.cellAt (k * 5 + j) (by omega)
    rw [h2, h1]
  exact ⟨key 0 (by decide), key 1 (by decide), key 2 (by decide), key 3 (by decide), key 4 (by decide)⟩

theorem pcText_size (s : ByteArray) (p : Pc) (h : p.at_ + p.len ≤ s.size) : (pcText s p).size = p.len := by
  unfold pcText; rw [ByteArray.size_extract]; omega

theorem scan_sub {l : Bs} {k : Nat} {p : Pc} (h : (qScan l)[k]? = some p) : 1 ≤ p.len ∧ p.at_ + p.len ≤ l.length ∧ l.length ≤ 20000 ∧ 1 ≤ p.kind ∧ p.kind ≤ 6 := by
  have hm : p ∈ qScan l := List.mem_of_getElem? h
  unfold qScan at hm
  rw [List.mem_filter] at hm
  obtain ⟨hg, ht⟩ := hm
  unfold isTok at ht
  simp only [decide_eq_true_eq] at ht
  obtain ⟨k', hk'⟩ := List.getElem?_of_mem hg
  obtain ⟨a1, a2, a3, a4⟩ := (qGood_follow l).get hk'
  exact ⟨a1, a2, qGood_small l k' p hk', a3, by omega⟩

theorem ext_sub (s : ByteArray) (a b : Nat) : (s.extract a b).data.toList = (s.data.toList.drop a).take (b - a) := by
  have := Lib.extract_toList s a b
  rwa [toList_data] at this

theorem scan_length (l : Bs) : (qScan l).length ≤ 20000 := by
  unfold qScan
  exact Nat.le_trans (List.length_filter_le _ _) (qGood_length l)

set_option maxRecDepth 100000 in
set_option maxHeartbeats 4000000 in
/-- **LexLongest** -/
theorem lexLongest_any (s : ByteArray) (hm : s.size ≤ maxLen) (w : World) (he : Env w) :
    Calls Tryd.prog 8 #[.string s] w fun e W => e = .returned (.bool true) ∧ Below w.heap.size w W := by
  have HE := Lib.hid he
  clear he
  go_enter Tryd.func8, Tryd.ntmps8
  go_wp2_with fail
  refine (sane_any _ HE.out).mono ?_
  rintro e W1 ⟨rfl, hb1⟩
  have HE1 := Lib.hid (HE.out.below hb1)
  go_wp2_with fail
  refine (scan_any s hm _ HE1.out).mono ?_
  rintro e W2 ⟨pv, rfl, hown, hnil, hb2⟩
  have HB := Lib.hid (bt hb1 hb2)
  have HE2 := Lib.hid (HE1.out.below hb2)
  clear hb1 hb2 hnil
  cases her : ((qErr s.data.toList : Int) != 0)
  · obtain ⟨ps, hps⟩ : ∃ ps, qScan s.data.toList = ps := ⟨_, rfl⟩
    have hlen := scan_length s.data.toList
    rw [hps] at hown hlen
    obtain ⟨n, hn⟩ : ∃ n, ps.length = n := ⟨_, rfl⟩
    rw [hn] at hown hlen
    obtain ⟨pa, pc, rfl⟩ := own_form hown
    have HO := Lib.hid hown
    have HS := Lib.hid hps
    have HN := Lib.hid hn
    clear hown hps hn
    go_wp2_with fail
    go_loopw [7] (fun o wr => ∃ k : Nat, k ≤ n ∧ o = .int .i64 k ∧ Hid (Below W2.heap.size W2 wr)) (fun o _ => n - (intOf o).toNat)
    case atStart => exact ⟨0, by omega, rfl, Lib.hid (Below.refl _ _)⟩
    case round =>
      obtain ⟨k, hk, rfl, HW⟩ := hrel
      by_cases hlt : k < n
      · obtain ⟨p, hp⟩ : ∃ p, ps[k]? = some p := ⟨_, List.getElem?_eq_getElem (by have := HN.out; omega)⟩
        have hOw := owns_bl' HO.out HW.out
        obtain ⟨g, hpa⟩ : ∃ g, pa = some ⟨g, 0, none⟩ := by
          rcases hOw.2 with ⟨h, h0⟩ | ⟨g, cap, cur, h, _⟩
          · omega
          · cases h; exact ⟨g, rfl⟩
        subst hpa
        obtain ⟨c0, c1, c2, c3, c4⟩ := owns_tk hOw hp
        have hps' : (qScan s.data.toList)[k]? = some p := by rw [HS.out]; exact hp
        obtain ⟨q1, q2, q3, q4, q5⟩ := scan_sub hps'
        simp only [Array.length_toList, ByteArray.size_data] at q2 q3
        have hsz := pcText_size s p q2
        have HP := Lib.hid hps'
        have hk0 : (0 : Int) ≤ (k : Int) := by omega
        have hk1 : (k : Int) < (n : Int) := by omega
        have hd : decide (k < n) = true := by simpa using hlt
        clear hOw hp hps' c0 c1 c4
        obtain ⟨t, ht⟩ : ∃ t, pcText s p = t := ⟨_, rfl⟩
        rw [ht] at c2 hsz
        have HT := Lib.hid ht
        have s1 : IntKind.i64.wrap ((p.at_ : Int) + (p.len : Int)) = (p.at_ : Int) + (p.len : Int) := IntWalk.i64_in _ (by omega)
        have s2 : IntKind.i64.wrap ((p.at_ : Int) + (p.len : Int) + 1) = (p.at_ : Int) + (p.len : Int) + 1 := IntWalk.i64_in _ (by omega)
        by_cases hin : p.at_ + p.len < s.size
        · have t1 : decide ((s.size : Int) ≤ (p.at_ : Int) + (p.len : Int)) = false := by simp; omega
          have t0 : (0 : Int) ≤ (p.at_ : Int) + (p.len : Int) := by omega
          have t2 : (p.at_ : Int) + (p.len : Int) < (s.size : Int) := by omega
          cases h58 : ((s[p.at_ + p.len].toNat : Int) == 58)
          · cases h45 : (t.toList == [45])
            · have hk0' : Hid (qKind ((s.data.toList.drop p.at_).take (p.len + 1)) = 0) := Lib.hid (kind_longest s.data.toList p k HP.out (by simpa using hin) (by
                have := at_byte s (p.at_ + p.len) hin 58
                intro e
                rw [e] at this
                rw [show ((58 : UInt8).toNat : Int) = 58 from rfl, h58] at this
                simp at this) (by
                rintro ⟨e1, e2⟩
                have hx : t.toList = [45] := by
                  rw [toList_data, ← HT.out]
                  unfold pcText
                  rw [ext_sub s p.at_ (p.at_ + p.len)]
                  rw [show p.at_ + p.len - p.at_ = 1 by omega]
                  obtain ⟨hlt2, hge⟩ := List.getElem?_eq_some_iff.1 e2
                  rw [List.drop_eq_getElem_cons hlt2, hge]; rfl
                rw [hx] at h45; simp at h45))
              go_wp2_with fail
              go_quiet (fail)
              go_wp2_with fail
              refine (kind_any (s.extract p.at_ (p.at_ + p.len + 1)) (by rw [ByteArray.size_extract]; unfold maxLen; omega) _ (HE2.out.below (below_drewN HW.out _))).mono ?_
              rintro e W3 ⟨rfl, hb3⟩
              have hq : qKind (s.extract p.at_ (p.at_ + p.len + 1)).data.toList = 0 := by
                rw [ext_sub, show p.at_ + p.len + 1 - p.at_ = p.len + 1 by omega]; exact hk0'.out
              rw [hq]
              have HB3 := Lib.hid (bt (below_drewN HW.out _) hb3)
              clear hq hb3
              go_wp2_with fail
              go_roundw
              case rel => exact ⟨k + 1, by omega, rfl, HB3⟩
              case measure => simp [intOf]; omega
            · go_wp2_with fail
              go_quiet (fail)
              go_wp2_with fail
              go_roundw
              case rel => exact ⟨k + 1, by omega, rfl, Lib.hid (below_drewN HW.out _)⟩
              case measure => simp [intOf]; omega
          · go_wp2_with fail
            go_quiet (fail)
            go_wp2_with fail
            go_roundw
            case rel => exact ⟨k + 1, by omega, rfl, Lib.hid (below_drewN HW.out _)⟩
            case measure => simp [intOf]; omega
        · have t1 : decide ((s.size : Int) ≤ (p.at_ : Int) + (p.len : Int)) = true := by simp; omega
          go_wp2_with fail
          go_quiet (fail)
          go_wp2_with fail
          go_roundw
          case rel => exact ⟨k + 1, by omega, rfl, Lib.hid (below_drewN HW.out _)⟩
          case measure => simp [intOf]; omega
      · have hd : decide (k < n) = false := by simpa using hlt
        go_wp2_with fail
        go_ret
        exact ⟨rfl, bt HB.out HW.out⟩
  · go_wp2_with fail
    go_ret
    exact ⟨rfl, HB.out⟩
end Go.Proofs.YtdfkkeeohbgmbaaDoor
