/- Package fragment: the walk of FragWords. -/
import Derived.Test.YtopbmndjnjnmcaaGreatDoorMS
namespace Go.Proofs.YtopbmndjnjnmcaaGreatDoor
open Go.RowKit Lx

attribute [local go_sem] Oper.semAt_some

/-- The first words. -/
theorem str_take {W : World} {a : Option Addr} {n c : Nat} {ws : List ByteArray} (h : StrRead W (.slice a n c) ws) {k : Nat} (hk : k ≤ ws.length) : StrRead W (.slice a k c) (ws.take k) := by
  obtain ⟨a', c', hv, ⟨h1, h2⟩, h⟩ := h
  simp only [Value.slice.injEq] at hv
  obtain ⟨rfl, _, rfl⟩ := hv
  have hl : (ws.take k).length = k := by rw [List.length_take]; omega
  refine ⟨_, c, by rw [hl], ⟨by omega, by omega⟩, fun j s hj => ?_⟩
  rw [List.getElem?_take] at hj
  split at hj
  · exact h j s hj
  · cases hj
theorem wordOk_ne {x : ByteArray} (h : wordOk x = true) : x.toList ≠ [] := fun hx => by
  have hd : x.data.toList = [] := by
    rw [← Lib.toList_data]; exact hx
  unfold wordOk at h
  rw [hd] at h
  exact absurd h (by decide +kernel)
theorem okWords_last {ws : List ByteArray} {x : ByteArray} (h : okWords (ws ++ [x]) = true) : x.toList ≠ [] := by
  unfold okWords at h
  simp only [Bool.and_eq_true, decide_eq_true_eq, List.all_eq_true, List.mem_range] at h
  have := h.2 ws.length (by simp)
  unfold okWordsAt at this
  simp only [List.getD_eq_getElem?_getD, List.getElem?_concat_length, Option.getD_some, Bool.and_eq_true] at this
  exact wordOk_ne this.1.1.1

set_option maxRecDepth 100000 in
set_option maxHeartbeats 8000000 in
/-- **FragWords** -/
theorem fragWords_any (S : Nat → Prop) (l : List Fr) (ws : List ByteArray) (v vw : Value) (w : World) (he : Env w) (hr : FrRead w S v l) (hw : StrRead w vw ws) (hz : ∀ s ∈ ws, s.size ≤ maxLen) (ht : TxtOk l) :
    Calls Tryz.prog 13 #[v, vw] w fun e W => e = .returned (.bool true) ∧ Below w.heap.size w W := by
  have HE := Lib.hid he
  have HR := Lib.hid hr
  have HW := Lib.hid hw
  have HZ := Lib.hid hz
  have HT := Lib.hid ht
  obtain ⟨a, c, _, _, rfl, _⟩ := hr
  obtain ⟨wa, wc, rfl, ⟨hwl, hwc⟩, hws⟩ := hw
  have HWS := Lib.hid hws
  unfold maxLen at hwl
  clear he hz ht hws
  rcases List.eq_nil_or_concat ws with hnil | ⟨ws0, x, hcat⟩
  · subst hnil
    go_enter Tryz.func13, Tryz.ntmps13
    go_wp2_with fail
    go_at_call 14
    refine (sane02_any _ HE.out).mono ?_
    rintro e W1 ⟨rfl, hb⟩
    have B1 := Lib.hid hb
    clear hb
    go_wp2_with fail
    go_ret
    exact ⟨rfl, B1.out⟩
  · rw [List.concat_eq_append] at hcat
    have HCAT := Lib.hid hcat
    obtain ⟨n, hn⟩ : ∃ n, ws0.length = n := ⟨_, rfl⟩
    have hlen : ws.length = n + 1 := by rw [hcat, List.length_append, hn]; rfl
    rw [hlen] at hwl hwc ⊢
    have HLEN := Lib.hid hlen
    have HN := Lib.hid hn
    have htk : ws.take n = ws0 := by rw [hcat, ← hn, List.take_left' rfl]
    have HTK := Lib.hid htk
    have hlast : ws[n]? = some x := by rw [hcat, ← hn]; simp
    obtain ⟨gw, ow, hwa, hgw, hcw⟩ := HWS.out n x hlast
    subst hwa
    have HCW := Lib.hid hcw
    have h0 : (((n + 1 : Nat) : Int) == 0) = false := by simp; omega
    have h1 : (((n : Int) + 1) == 0) = false := by simp; omega
    have hw1 : IntKind.i64.wrap (((n + 1 : Nat) : Int) - 1) = (n : Int) := by rw [IntWalk.i64_in _ (by omega)]; omega
    have hw2 : IntKind.i64.wrap ((n : Int) + 1 - 1) = (n : Int) := by rw [IntWalk.i64_in _ (by omega)]; omega
    clear hcat hn hlen htk hlast hcw
    go_enter Tryz.func13, Tryz.ntmps13
    go_wp2_with fail
    go_at_call 14
    refine (sane02_any _ HE.out).mono ?_
    rintro e W1 ⟨rfl, hb⟩
    have B1 := Lib.hid hb
    have HW1 := Lib.hid (HW.out.bl hb)
    have HR1 := Lib.hid (HR.out.bl hb)
    clear hb
    rw [HLEN.out] at HW1
    go_wp2_with fail
    go_at_call 30
    refine (fragCheck_any (fun _ => True) [] ws _ _ _ (HE.out.below B1.out) (FrRead.nil _ _ _ _) HW1.out HZ.out TxtOk.nil).mono ?_
    rintro e W2 ⟨rfl, hb⟩
    have B2 := Lib.hid (B1.out.trans (hb.mono B1.out.size))
    have HW2 := Lib.hid (HW1.out.bl hb)
    have HR2 := Lib.hid (HR1.out.bl hb)
    clear hb
    obtain ⟨c1, hc1⟩ : ∃ c1, checkP [] ws = c1 := ⟨_, rfl⟩
    rw [hc1]
    have HC1 := Lib.hid hc1
    clear hc1
    by_cases e1 : c1 = 0
    case neg =>
      have f1 : ((c1 : Int) != 0) = true := by simp; omega
      go_wp2_with fail
      go_ret
      exact ⟨rfl, B2.out⟩
    subst e1
    go_wp2_with fail
    go_at_call 30
    have hst := str_take HW2.out (k := n) (by rw [HLEN.out]; omega)
    rw [HTK.out] at hst
    refine (fragCheck_any S l ws0 _ _ _ (HE.out.below B2.out) HR2.out hst (fun s hs => HZ.out s (by rw [HCAT.out]; exact List.mem_append_left _ hs)) HT.out).mono ?_
    rintro e W3 ⟨rfl, hb⟩
    have B3 := Lib.hid (B2.out.trans (hb.mono B2.out.size))
    have HW3 := Lib.hid (HW2.out.bl hb)
    have HR3 := Lib.hid (HR2.out.bl hb)
    clear hb hst
    obtain ⟨c2, hc2⟩ : ∃ c2, checkP l ws0 = c2 := ⟨_, rfl⟩
    rw [hc2]
    have HC2 := Lib.hid hc2
    clear hc2
    by_cases e2 : c2 = 0
    case neg =>
      have f2 : ((c2 : Int) != 0) = true := by simp; omega
      go_wp2_with fail
      go_ret
      exact ⟨rfl, B3.out⟩
    subst e2
    go_wp2_with fail
    go_at_call 28
    refine (flat_any S l _ _ HR3.out).mono ?_
    rintro e W4 ⟨ta, tn, tc, rfl, htr, _, hb⟩
    have B4 := Lib.hid (B3.out.trans (hb.mono B3.out.size))
    have HW4 := Lib.hid (HW3.out.bl hb)
    have HR4 := Lib.hid (HR3.out.bl hb)
    clear hb
    obtain ⟨ts, hts⟩ : ∃ ts, flatP l = ts := ⟨_, rfl⟩
    rw [hts] at htr
    have HTS := Lib.hid hts
    have HTR := Lib.hid htr
    obtain ⟨ta', tc', hv, ⟨htl, htc⟩, htcell⟩ := htr
    simp only [Value.slice.injEq] at hv
    obtain ⟨rfl, rfl, rfl⟩ := hv
    unfold maxLen at htl
    have HTC := Lib.hid htcell
    clear hts htcell
    go_wp2_with fail
    go_loopw [7] (fun y wr => ∃ (k : Nat), k ≤ ts.length ∧ y = .int .i64 k ∧ Hid (∀ t ∈ ts.take k, t.text.toList ≠ x.toList) ∧ Hid (Below W4.heap.size W4 wr)) (fun y _ => ts.length - (intOf y).toNat)
    case atStart => exact ⟨0, by omega, rfl, Lib.hid (fun t ht => by simp at ht), Lib.hid (Below.refl _ _)⟩
    case round =>
      obtain ⟨k, hk, rfl, HK, HB⟩ := hrel
      by_cases hlt : k < ts.length
      · obtain ⟨t, htk⟩ : ∃ t, ts[k]? = some t := ⟨_, List.getElem?_eq_getElem hlt⟩
        obtain ⟨tg, tf, rfl, hg, _, _, d2, _, _⟩ := HTC.out k t htk
        have m2 := (HB.out.cell (p := ⟨tg, _, none⟩) hg).trans d2
        have hb4 := B4.out.trans (HB.out.mono B4.out.size)
        have n2 := (hb4.cell (p := ⟨gw, _, none⟩) hgw).trans HCW.out
        have k1 : (k : Int) < (ts.length : Int) := by omega
        have k2 : (n : Int) < (n : Int) + 1 := by omega
        have HTT := Lib.hid htk
        clear d2 hb4 htk
        cases e3 : (t.text.toList == x.toList)
        · go_wp2_with fail
          go_quiet (fail)
          go_wp2_with fail
          go_roundw
          case rel => exact ⟨k + 1, by omega, by go_num, Lib.hid (fun t' ht' => by
            rw [List.take_add_one, HTT.out] at ht'
            rcases List.mem_append.1 ht' with h | h
            · exact HK.out t' h
            · obtain rfl : t' = t := by simpa using h
              intro h2
              rw [h2] at e3
              simp at e3), Lib.hid (below_drewN HB.out _)⟩
          case measure => simp [intOf]; omega
        · go_wp2_with fail
          go_quiet (fail)
          go_wp2_with fail
          go_ret
          exact ⟨rfl, B4.out.trans ((below_drewN HB.out _).mono B4.out.size)⟩
      · obtain rfl : k = ts.length := by omega
        have hall := HK.out
        rw [List.take_length] at hall
        have hok : checkP l ws = 0 := by
          have h1 := (checkP_ok.1 HC1.out).1
          rw [HCAT.out] at h1 ⊢
          exact check_more h1 (okWords_last h1) HC2.out (by rw [HTS.out]; exact hall)
        have HOK := Lib.hid hok
        have B5 := Lib.hid (B4.out.trans (HB.out.mono B4.out.size))
        have HW5 := Lib.hid (HW4.out.bl HB.out)
        have HR5 := Lib.hid (HR4.out.bl HB.out)
        clear hall hok
        go_wp2_with fail
        go_at_call 30
        refine (fragCheck_any S l ws _ _ _ (HE.out.below B5.out) HR5.out HW5.out HZ.out HT.out).mono ?_
        rintro e W6 ⟨rfl, hb⟩
        rw [HOK.out]
        have B6 := Lib.hid (B5.out.trans (hb.mono B5.out.size))
        clear hb
        go_wp2_with fail
        go_ret
        exact ⟨rfl, B6.out⟩
end Go.Proofs.YtopbmndjnjnmcaaGreatDoor
