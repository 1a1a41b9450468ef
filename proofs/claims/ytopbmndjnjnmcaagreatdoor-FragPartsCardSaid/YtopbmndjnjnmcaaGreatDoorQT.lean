/- Package fragment: the walk of FragParts. -/
import Derived.Test.YtopbmndjnjnmcaaGreatDoorPT
namespace Go.Proofs.YtopbmndjnjnmcaaGreatDoor
open Go.RowKit Lx
attribute [local go_sem] Oper.semAt_some

theorem info52z : (Tryz.prog.info? 52).map (fun i => (i.zero, i.size, i.bytes)) = some (some (.agg #[.int .i64 0, .int .i64 0, .string ⟨#[]⟩, .int .i64 0, .int .i64 0, .string ⟨#[]⟩, .slice none 0 0]), 7, 88) := by kernel_rfl

set_option maxRecDepth 100000 in
set_option maxHeartbeats 32000000 in
/-- **FragParts** -/
theorem fragParts_any (a b : List Fr) (ws : List ByteArray) (va vb vw : Value) (w : World) (he : Env w) (hra : FrRead w (fun _ => True) va a) (hrb : FrRead w (fun _ => True) vb b) (hw : StrRead w vw ws) (hz : ∀ s ∈ ws, s.size ≤ maxLen) (hta : TxtOk a) (htb : TxtOk b)
    (hna : ∀ n c, va = .slice none n c → c = 0) (hnb : ∀ n c, vb = .slice none n c → c = 0) :
    Calls Tryz.prog 10 #[va, vb, vw] w fun e W => e = .returned (.bool true) ∧ Below w.heap.size w W := by
  have HE := Lib.hid he
  have HA := Lib.hid hra
  have HB := Lib.hid hrb
  have HW := Lib.hid hw
  have HZ := Lib.hid hz
  have HTA := Lib.hid hta
  have HTB := Lib.hid htb
  obtain ⟨aa, ac, ag, ao, rfl, ⟨ha1, ha2⟩, haa, haat⟩ := hra
  obtain ⟨ba, bc, bg, bo, rfl, ⟨hb1, hb2⟩, hba, hbat⟩ := hrb
  obtain ⟨wa, wc, rfl, _⟩ := hw
  have HNA := Lib.hid (fun (h : aa = none) => hna a.length ac (by rw [h]))
  have HNB := Lib.hid (fun (h : ba = none) => hnb b.length bc (by rw [h]))
  have HAA := Lib.hid haa
  have HBA := Lib.hid hba
  have HAT := Lib.hid haat
  have HBT := Lib.hid hbat
  unfold maxLen at ha1 hb1
  obtain ⟨i0, hi0, hz0, hz1, hz2⟩ := info_parts info52z
  clear he hz hta htb hna hnb haa hba haat hbat
  go_enter Tryz.func10, Tryz.ntmps10
  go_wp2_with fail
  go_at_call 14
  refine (sane02_any _ HE.out).mono ?_
  rintro e W1 ⟨rfl, hb⟩
  have B1 := Lib.hid hb
  clear hb
  go_wp2_with fail
  go_at_call 30
  refine (fragCheck_any (fun _ => True) a ws _ _ _ (HE.out.below B1.out) (HA.out.bl B1.out) (HW.out.bl B1.out) HZ.out HTA.out).mono ?_
  rintro e W2 ⟨rfl, hb⟩
  have B2 := Lib.hid (B1.out.trans (hb.mono B1.out.size))
  clear hb
  obtain ⟨c1, hc1⟩ : ∃ c1, checkP a ws = c1 := ⟨_, rfl⟩
  rw [hc1]
  have HC1 := Lib.hid hc1
  clear hc1
  by_cases e1 : c1 = 0
  case neg =>
    have f1 : ((c1 : Int) != 0) = true := by simp; omega
    go_wp2_with fail
    go_ret
    exact ⟨rfl, B2.out⟩
  subst e1
  go_wp2_with fail
  go_at_call 30
  refine (fragCheck_any (fun _ => True) b ws _ _ _ (HE.out.below B2.out) (HB.out.bl B2.out) (HW.out.bl B2.out) HZ.out HTB.out).mono ?_
  rintro e W3 ⟨rfl, hb⟩
  have B3 := Lib.hid (B2.out.trans (hb.mono B2.out.size))
  clear hb
  obtain ⟨c2, hc2⟩ : ∃ c2, checkP b ws = c2 := ⟨_, rfl⟩
  rw [hc2]
  have HC2 := Lib.hid hc2
  clear hc2
  by_cases e2 : c2 = 0
  case neg =>
    have f1 : ((c2 : Int) != 0) = true := by simp; omega
    go_wp2_with fail
    go_ret
    exact ⟨rfl, B3.out⟩
  subst e2
  obtain ⟨_, _, _, hla, _, hsa, _⟩ := check_run HC1.out
  obtain ⟨_, _, _, hlb, _, hsb, _⟩ := check_run HC2.out
  have hal := length_toks a
  have hbl := length_toks b
  have ha6 : a.length ≤ 6000 := by omega
  have hb6 : b.length ≤ 6000 := by omega
  have hsa6 : sizeP a ≤ 6000 := by omega
  have hsb6 : sizeP b ≤ 6000 := by omega
  clear hla hlb hsa hsb hal hbl
  go_wp2_with fail
  go_at_call 44
  refine (ends_any (fun _ => True) a _ _ (HA.out.bl B3.out)).mono ?_
  rintro e W4 ⟨rfl, hb⟩
  have B4 := Lib.hid (B3.out.trans (hb.mono B3.out.size))
  clear hb
  cases hE : endsP a
  case true =>
    have BX := B4
    obtain ⟨Wx, hWx⟩ : ∃ Wx : World, Wx = W4 := ⟨_, rfl⟩
    subst hWx
    go_wp2_with fail
    go_loopw [8] (fun y wr => ∃ (k : Nat), k ≤ a.length ∧ y = .int .i64 k ∧ Hid (Below Wx.heap.size Wx wr)) (fun y _ => a.length - (intOf y).toNat)
    case atStart => exact ⟨0, by omega, rfl, Lib.hid (Below.refl _ _)⟩
    case round =>
      obtain ⟨k, hk, rfl, HBR⟩ := hrel
      by_cases hlt : k < a.length
      · obtain ⟨f, hf⟩ : ∃ f, a[k]? = some f := ⟨_, List.getElem?_eq_getElem (by exact hlt)⟩
        have hva : aa = some ⟨ag, ao, none⟩ := HAA.out (by intro h; rw [h] at hf; simp at hf)
        subst hva
        obtain ⟨kv, hs, hg, c0, c1, c2, c3, c4, c5, c6, hkr⟩ := HAT.out.get hf
        obtain ⟨ka, kc, hkv⟩ : ∃ a c, kv = .slice a f.kids.length c := by obtain ⟨a, c, _, _, h, _⟩ := hkr; exact ⟨a, c, h⟩
        subst hkv
        have hbx := BX.out.trans (HBR.out.mono BX.out.size)
        have m5 := (hbx.cell (p := ⟨ag, ao + k * 7 + 5, none⟩) hg).trans c5
        have m6 := (hbx.cell (p := ⟨ag, ao + k * 7 + 6, none⟩) hg).trans c6
        have HKR := Lib.hid (hkr.bl hbx)
        have BR := Lib.hid hbx
        have HF := Lib.hid hf
        have HTK := Lib.hid (txtOk_get HTA.out hf)
        have k1 : (k : Int) < (a.length : Int) := by omega
        clear c0 c1 c2 c3 c4 c5 c6 hkr hbx hf hs
        cases e1 : (f.op.toList == [])
        · have e2 : f.op.toList.isEmpty = false := by rw [← e1]; cases f.op.toList <;> rfl
          cases e3 : (f.op.toList == [109, 97, 99, 114, 111])
          · have hop : f.op.toList ≠ [] := by intro h; rw [h] at e1; simp at e1
            have hck : checkP f.kids ws = 0 := check_kids HC1.out HF.out hop (by rw [show tMacro.toList = [109, 97, 99, 114, 111] by decide +kernel]; exact e3)
            have HCK := Lib.hid hck
            clear hop hck
            go_wp2_with fail
            go_at_call 30
            refine (fragCheck_any (fun _ => True) f.kids ws _ _ _ (HE.out.below BR.out) HKR.out (HW.out.bl BR.out) HZ.out HTK.out).mono ?_
            rintro e W9 ⟨rfl, hb⟩
            rw [HCK.out]
            have HB9 := Lib.hid (HBR.out.trans (hb.mono HBR.out.size))
            clear hb
            go_wp2_with fail
            go_roundw
            case rel => exact ⟨k + 1, by omega, by go_num, HB9⟩
            case measure => simp [intOf]; omega
          · go_wp2_with fail
            go_roundw
            case rel => exact ⟨k + 1, by omega, by go_num, HBR⟩
            case measure => simp [intOf]; omega
        · have e2 : f.op.toList.isEmpty = true := by rw [← e1]; cases f.op.toList <;> rfl
          go_wp2_with fail
          go_roundw
          case rel => exact ⟨k + 1, by omega, by go_num, HBR⟩
          case measure => simp [intOf]; omega
      · obtain rfl : k = a.length := by omega
        go_wp2_with fail
        go_ret
        exact ⟨rfl, BX.out.trans (HBR.out.mono BX.out.size)⟩
  have HEN := Lib.hid hE
  clear hE
  go_wp2_with fail
  go_at_call 21
  refine (size_any (fun _ => True) a _ _ (HA.out.bl B4.out)).mono ?_
  rintro e W5 ⟨rfl, hb⟩
  have B5 := Lib.hid (B4.out.trans (hb.mono B4.out.size))
  clear hb
  go_wp2_with fail
  go_at_call 21
  refine (size_any (fun _ => True) b _ _ (HB.out.bl B5.out)).mono ?_
  rintro e W6 ⟨rfl, hb⟩
  have B6 := Lib.hid (B5.out.trans (hb.mono B5.out.size))
  clear hb
  by_cases hsum : sizeP a + sizeP b ≤ 6000
  case neg =>
    have d1 : decide ((sizeP a : Int) + (sizeP b : Int) ≤ 6000) = false := decide_eq_false (by omega)
    have d2 : decide (sizeP a + sizeP b ≤ 6000) = false := decide_eq_false hsum
    have BX := B6
    obtain ⟨Wx, hWx⟩ : ∃ Wx : World, Wx = W6 := ⟨_, rfl⟩
    subst hWx
    go_wp2_with fail
    go_loopw [8] (fun y wr => ∃ (k : Nat), k ≤ a.length ∧ y = .int .i64 k ∧ Hid (Below Wx.heap.size Wx wr)) (fun y _ => a.length - (intOf y).toNat)
    case atStart => exact ⟨0, by omega, rfl, Lib.hid (Below.refl _ _)⟩
    case round =>
      obtain ⟨k, hk, rfl, HBR⟩ := hrel
      by_cases hlt : k < a.length
      · obtain ⟨f, hf⟩ : ∃ f, a[k]? = some f := ⟨_, List.getElem?_eq_getElem (by exact hlt)⟩
        have hva : aa = some ⟨ag, ao, none⟩ := HAA.out (by intro h; rw [h] at hf; simp at hf)
        subst hva
        obtain ⟨kv, hs, hg, c0, c1, c2, c3, c4, c5, c6, hkr⟩ := HAT.out.get hf
        obtain ⟨ka, kc, hkv⟩ : ∃ a c, kv = .slice a f.kids.length c := by obtain ⟨a, c, _, _, h, _⟩ := hkr; exact ⟨a, c, h⟩
        subst hkv
        have hbx := BX.out.trans (HBR.out.mono BX.out.size)
        have m5 := (hbx.cell (p := ⟨ag, ao + k * 7 + 5, none⟩) hg).trans c5
        have m6 := (hbx.cell (p := ⟨ag, ao + k * 7 + 6, none⟩) hg).trans c6
        have HKR := Lib.hid (hkr.bl hbx)
        have BR := Lib.hid hbx
        have HF := Lib.hid hf
        have HTK := Lib.hid (txtOk_get HTA.out hf)
        have k1 : (k : Int) < (a.length : Int) := by omega
        clear c0 c1 c2 c3 c4 c5 c6 hkr hbx hf hs
        cases e1 : (f.op.toList == [])
        · have e2 : f.op.toList.isEmpty = false := by rw [← e1]; cases f.op.toList <;> rfl
          cases e3 : (f.op.toList == [109, 97, 99, 114, 111])
          · have hop : f.op.toList ≠ [] := by intro h; rw [h] at e1; simp at e1
            have hck : checkP f.kids ws = 0 := check_kids HC1.out HF.out hop (by rw [show tMacro.toList = [109, 97, 99, 114, 111] by decide +kernel]; exact e3)
            have HCK := Lib.hid hck
            clear hop hck
            go_wp2_with fail
            go_at_call 30
            refine (fragCheck_any (fun _ => True) f.kids ws _ _ _ (HE.out.below BR.out) HKR.out (HW.out.bl BR.out) HZ.out HTK.out).mono ?_
            rintro e W9 ⟨rfl, hb⟩
            rw [HCK.out]
            have HB9 := Lib.hid (HBR.out.trans (hb.mono HBR.out.size))
            clear hb
            go_wp2_with fail
            go_roundw
            case rel => exact ⟨k + 1, by omega, by go_num, HB9⟩
            case measure => simp [intOf]; omega
          · go_wp2_with fail
            go_roundw
            case rel => exact ⟨k + 1, by omega, by go_num, HBR⟩
            case measure => simp [intOf]; omega
        · have e2 : f.op.toList.isEmpty = true := by rw [← e1]; cases f.op.toList <;> rfl
          go_wp2_with fail
          go_roundw
          case rel => exact ⟨k + 1, by omega, by go_num, HBR⟩
          case measure => simp [intOf]; omega
      · obtain rfl : k = a.length := by omega
        go_wp2_with fail
        go_ret
        exact ⟨rfl, BX.out.trans (HBR.out.mono BX.out.size)⟩
  have d1 : decide ((sizeP a : Int) + (sizeP b : Int) ≤ 6000) = true := decide_eq_true (by omega)
  have d2 : decide (sizeP a + sizeP b ≤ 6000) = true := decide_eq_true hsum
  have HOK := Lib.hid (check_app HC1.out HC2.out (ends_clo HEN.out) hsum)
  have ho0 : (W6.alloc (.cells #[] 52)).ownsRow W6.heap.size 52 7 (.slice (some ⟨W6.heap.size, 0, none⟩) 0 0) 0 [] :=
    ⟨rfl, .inr ⟨W6.heap.size, 0, #[], rfl, Nat.le_refl _, heap_alloc_new W6 _, Nat.le_refl _, Nat.zero_le _, rfl, rfl⟩⟩
  have hb7 := (Below.refl W6.heap.size W6).alloc (Nat.le_refl _) (.cells #[] 52)
  obtain ⟨xsa, hxa, hca⟩ := (HAT.out.keep (W' := W6) (S' := fun b => b < W6.heap.size) fun b _ hlt => ⟨(B6.out.block b hlt), Nat.lt_of_lt_of_le hlt B6.out.size⟩).cells
  obtain ⟨xsb, hxb, hcb⟩ := (HBT.out.keep (W' := W6) (S' := fun b => b < W6.heap.size) fun b _ hlt => ⟨(B6.out.block b hlt), Nat.lt_of_lt_of_le hlt B6.out.size⟩).cells
  have HO0 := Lib.hid ho0
  have HXA := Lib.hid hxa
  have HXB := Lib.hid hxb
  have HCA := Lib.hid hca
  have HCB := Lib.hid hcb
  have HLA := Lib.hid hxa.len
  have HLB := Lib.hid hxb.len
  have HOA := Lib.hid hxa.one
  have HOB := Lib.hid hxb.one
  have HLT : Hid (∀ (g o j : Nat) (u : Value) (W : World), W6.cell? ⟨g, o + j, none⟩ = some u → Below W6.heap.size W6 W → W.cell? ((⟨g, o, none⟩ : Addr).add j) = some u) := Lib.hid fun g o j u W h hb => by
    rw [addr_add]
    exact (hb.cell (p := ⟨g, o + j, none⟩) (cell_lt' h)).trans h
  have HB7 := Lib.hid hb7
  obtain ⟨na, hna⟩ : ∃ n, a.length = n := ⟨_, rfl⟩
  obtain ⟨nb, hnb⟩ : ∃ n, b.length = n := ⟨_, rfl⟩
  rw [hna] at ha1 ha2 ha6 HLA ⊢
  rw [hnb] at hb1 hb2 hb6 HLB ⊢
  have HNNA := Lib.hid hna
  have HNNB := Lib.hid hnb
  clear ho0 hb7 hxa hca hxb hcb hna hnb
  by_cases hA0 : na = 0
  · by_cases hB0 : nb = 0
    · obtain rfl : na = 0 := by omega
      obtain rfl : nb = 0 := by omega
      go_wp2_with (first
        | (at_builtin; refine wpList_met (by first | rfl | simp [Region.wanted, yielded]) (wpList_append_fits_any _ rfl (.tmp 33) (.tmp 34) 25 rfl W6.heap.size 52 i0 7 Tryz.underlying25 hi0 hz1 W6.heap.size 0 0 [] (by rfl) HO0.out aa 0 ac [] (by rfl) (by rfl) (fun h => ⟨rfl, HNA.out h⟩) (fun _ _ j u h => (by simp at h)) (fun u h => (by simp at h)) (by omega) ?_); intro w10 hown1 hgrow1; simp only [Nat.add_zero, List.append_nil] at hown1; have HB10 := Lib.hid (HB7.out.grown hgrow1 (by rw [World.size_alloc]; omega) (fun r hr => by have : W6.heap.size = r := Option.some.inj hr; omega)); have HO1 := Lib.hid hown1; have hw10 := HB10.out.size; clear hown1 hgrow1)
        | (at_builtin; refine wpList_met (by first | rfl | simp [Region.wanted, yielded]) (wpList_append_fits_any _ rfl (.tmp 35) (.tmp 36) 25 rfl W6.heap.size 52 i0 7 Tryz.underlying25 hi0 hz1 W6.heap.size 0 0 [] (by rfl) HO1.out ba 0 bc [] (by rfl) (by rfl) (fun h => ⟨rfl, HNB.out h⟩) (fun _ _ j u h => (by simp at h)) (fun u h => (by simp at h)) (by have := owns_cap HO1.out; omega) ?_); intro w11 hown2 hgrow2; have HB11 := Lib.hid (HB10.out.grown hgrow2 hw10 (fun r hr => own_base HO1.out hr)); have HO2 := Lib.hid hown2; clear hown2 hgrow2))
      go_at_call 30
      have hxa0 : KidsC W6 (fun b => b < W6.heap.size) a [] := by
        have e : a = [] := List.eq_nil_of_length_eq_zero HNNA.out
        rw [e]; exact rfl
      have hxb0 : KidsC W6 (fun b => b < W6.heap.size) b [] := by
        have e : b = [] := List.eq_nil_of_length_eq_zero HNNB.out
        rw [e]; exact rfl
      have hfr : FrRead w11 (fun _ => True) (.slice (some ⟨W6.heap.size, 0, none⟩) (0 + 0) 0) (a ++ b) := by
        refine kids_read HO2.out (by rw [List.length_append, HNNA.out, HNNB.out]) ((KidsC.app (a := a) (b := b) (hxa0) (hxb0)).keep (S' := fun b => b < W6.heap.size) fun x hx hlt => ⟨HB11.out.block x hx, hx⟩) (fun _ _ _ => trivial) (fun _ _ => trivial)
      have hb11 := B6.out.trans (HB11.out.mono B6.out.size)
      refine (fragCheck_any (fun _ => True) (a ++ b) ws _ _ _ (HE.out.below hb11) hfr (HW.out.bl hb11) HZ.out (HTA.out.app HTB.out)).mono ?_
      rintro e W7 ⟨rfl, hb⟩
      rw [HOK.out]
      have BX := Lib.hid (hb11.trans (hb.mono hb11.size))
      obtain ⟨Wx, hWx⟩ : ∃ Wx : World, Wx = W7 := ⟨_, rfl⟩
      subst hWx
      clear hb hb11 hfr hxa0 hxb0
      go_wp2_with fail
      go_loopw [8] (fun y wr => ∃ (k : Nat), k ≤ 0 ∧ y = .int .i64 k ∧ Hid (Below Wx.heap.size Wx wr)) (fun y _ => 0 - (intOf y).toNat)
      case atStart => exact ⟨0, by omega, rfl, Lib.hid (Below.refl _ _)⟩
      case round =>
        obtain ⟨k, hk, rfl, HBR⟩ := hrel
        obtain rfl : k = 0 := by omega
        go_wp2_with fail
        go_ret
        exact ⟨rfl, BX.out.trans (HBR.out.mono BX.out.size)⟩
    · obtain rfl : na = 0 := by omega
      obtain rfl : ba = some ⟨bg, bo, none⟩ := HBA.out (by intro h; rw [h] at HNNB; have := HNNB.out; simp at this; omega)
      go_wp2_with (first
        | (at_builtin; refine wpList_met (by first | rfl | simp [Region.wanted, yielded]) (wpList_append_fits_any _ rfl (.tmp 33) (.tmp 34) 25 rfl W6.heap.size 52 i0 7 Tryz.underlying25 hi0 hz1 W6.heap.size 0 0 [] (by rfl) HO0.out aa 0 ac [] (by rfl) (by rfl) (fun h => ⟨rfl, HNA.out h⟩) (fun _ _ j u h => (by simp at h)) (fun u h => (by simp at h)) (by omega) ?_); intro w10 hown1 hgrow1; simp only [Nat.add_zero, List.append_nil] at hown1; have HB10 := Lib.hid (HB7.out.grown hgrow1 (by rw [World.size_alloc]; omega) (fun r hr => by have : W6.heap.size = r := Option.some.inj hr; omega)); have HO1 := Lib.hid hown1; have hw10 := HB10.out.size; clear hown1 hgrow1)
        | (at_builtin; refine wpList_met (by first | rfl | simp [Region.wanted, yielded]) (wpList_append_lies _ rfl (.tmp 35) (.tmp 36) 25 rfl W6.heap.size 52 i0 _ 7 88 Tryz.underlying25 hi0 hz0 hz1 hz2 rfl (by omega) (.slice (some ⟨W6.heap.size, 0, none⟩) 0 0) 0 [] (by rfl) HO1.out ⟨bg, bo, none⟩ nb bc xsb (by rfl) HLB.out (fun j u h => HLT.out bg bo j u _ (HCB.out j u h) HB10.out) HOB.out (by omega) (by unfold maxLen; omega) (by omega) (by omega) w10.heap.size rfl ?_); intro g2 cap2 w11 hown2 hgrow2 hat2 hgl2; simp only [Nat.zero_add, List.nil_append] at hown2; have HB11 := Lib.hid (HB10.out.grown hgrow2 hw10 (fun r hr => own_base HO1.out hr)); have HO2 := Lib.hid hown2; clear hown2 hgrow2 hat2 hgl2))
      go_at_call 30
      have hxa0 : KidsC W6 (fun b => b < W6.heap.size) a [] := by
        have e : a = [] := List.eq_nil_of_length_eq_zero HNNA.out
        rw [e]; exact rfl
      have hfr : FrRead w11 (fun _ => True) (.slice (some ⟨g2, 0, none⟩) (nb) cap2) (a ++ b) := by
        refine kids_read HO2.out (by rw [List.length_append, HNNA.out, HNNB.out]; exact (Nat.zero_add _).symm) ((KidsC.app (a := a) (b := b) (hxa0) (HXB.out)).keep (S' := fun b => b < W6.heap.size) fun x hx hlt => ⟨HB11.out.block x hx, hx⟩) (fun _ _ _ => trivial) (fun _ _ => trivial)
      have hb11 := B6.out.trans (HB11.out.mono B6.out.size)
      refine (fragCheck_any (fun _ => True) (a ++ b) ws _ _ _ (HE.out.below hb11) hfr (HW.out.bl hb11) HZ.out (HTA.out.app HTB.out)).mono ?_
      rintro e W7 ⟨rfl, hb⟩
      rw [HOK.out]
      have BX := Lib.hid (hb11.trans (hb.mono hb11.size))
      obtain ⟨Wx, hWx⟩ : ∃ Wx : World, Wx = W7 := ⟨_, rfl⟩
      subst hWx
      clear hb hb11 hfr hxa0
      go_wp2_with fail
      go_loopw [8] (fun y wr => ∃ (k : Nat), k ≤ 0 ∧ y = .int .i64 k ∧ Hid (Below Wx.heap.size Wx wr)) (fun y _ => 0 - (intOf y).toNat)
      case atStart => exact ⟨0, by omega, rfl, Lib.hid (Below.refl _ _)⟩
      case round =>
        obtain ⟨k, hk, rfl, HBR⟩ := hrel
        obtain rfl : k = 0 := by omega
        go_wp2_with fail
        go_ret
        exact ⟨rfl, BX.out.trans (HBR.out.mono BX.out.size)⟩
  · by_cases hB0 : nb = 0
    · obtain rfl : aa = some ⟨ag, ao, none⟩ := HAA.out (by intro h; rw [h] at HNNA; have := HNNA.out; simp at this; omega)
      obtain rfl : nb = 0 := by omega
      go_wp2_with (first
        | (at_builtin; refine wpList_met (by first | rfl | simp [Region.wanted, yielded]) (wpList_append_lies _ rfl (.tmp 33) (.tmp 34) 25 rfl W6.heap.size 52 i0 _ 7 88 Tryz.underlying25 hi0 hz0 hz1 hz2 rfl (by omega) (.slice (some ⟨W6.heap.size, 0, none⟩) 0 0) 0 [] (by rfl) HO0.out ⟨ag, ao, none⟩ na ac xsa (by rfl) HLA.out (fun j u h => HLT.out ag ao j u _ (HCA.out j u h) HB7.out) HOA.out (by omega) (by unfold maxLen; omega) (by omega) (by rw [World.size_alloc]; omega) (W6.heap.size + 1) (World.size_alloc _ _) ?_); intro g1 cap1 w10 hown1 hgrow1 hat1 hgl1; simp only [Nat.zero_add, List.nil_append] at hown1; have HB10 := Lib.hid (HB7.out.grown hgrow1 (by rw [World.size_alloc]; omega) (fun r hr => own_base HO0.out hr)); have HO1 := Lib.hid hown1; have hw10 := HB10.out.size; clear hown1 hgrow1 hat1 hgl1)
        | (at_builtin; refine wpList_met (by first | rfl | simp [Region.wanted, yielded]) (wpList_append_fits_any _ rfl (.tmp 35) (.tmp 36) 25 rfl W6.heap.size 52 i0 7 Tryz.underlying25 hi0 hz1 g1 na cap1 xsa (by rfl) HO1.out ba 0 bc [] (by rfl) (by rfl) (fun h => ⟨rfl, HNB.out h⟩) (fun _ _ j u h => (by simp at h)) (fun u h => (by simp at h)) (by have := owns_cap HO1.out; omega) ?_); intro w11 hown2 hgrow2; have HB11 := Lib.hid (HB10.out.grown hgrow2 hw10 (fun r hr => own_base HO1.out hr)); have HO2 := Lib.hid hown2; clear hown2 hgrow2))
      go_at_call 30
      have hxb0 : KidsC W6 (fun b => b < W6.heap.size) b [] := by
        have e : b = [] := List.eq_nil_of_length_eq_zero HNNB.out
        rw [e]; exact rfl
      have hfr : FrRead w11 (fun _ => True) (.slice (some ⟨g1, 0, none⟩) (na + 0) cap1) (a ++ b) := by
        refine kids_read HO2.out (by rw [List.length_append, HNNA.out, HNNB.out]) ((KidsC.app (a := a) (b := b) (HXA.out) (hxb0)).keep (S' := fun b => b < W6.heap.size) fun x hx hlt => ⟨HB11.out.block x hx, hx⟩) (fun _ _ _ => trivial) (fun _ _ => trivial)
      have hb11 := B6.out.trans (HB11.out.mono B6.out.size)
      refine (fragCheck_any (fun _ => True) (a ++ b) ws _ _ _ (HE.out.below hb11) hfr (HW.out.bl hb11) HZ.out (HTA.out.app HTB.out)).mono ?_
      rintro e W7 ⟨rfl, hb⟩
      rw [HOK.out]
      have BX := Lib.hid (hb11.trans (hb.mono hb11.size))
      obtain ⟨Wx, hWx⟩ : ∃ Wx : World, Wx = W7 := ⟨_, rfl⟩
      subst hWx
      clear hb hb11 hfr hxb0
      go_wp2_with fail
      go_loopw [8] (fun y wr => ∃ (k : Nat), k ≤ na ∧ y = .int .i64 k ∧ Hid (Below Wx.heap.size Wx wr)) (fun y _ => na - (intOf y).toNat)
      case atStart => exact ⟨0, by omega, rfl, Lib.hid (Below.refl _ _)⟩
      case round =>
        obtain ⟨k, hk, rfl, HBR⟩ := hrel
        by_cases hlt : k < na
        · obtain ⟨f, hf⟩ : ∃ f, a[k]? = some f := ⟨_, List.getElem?_eq_getElem (by rw [HNNA.out]; exact hlt)⟩
          obtain ⟨kv, hs, hg, c0, c1, c2, c3, c4, c5, c6, hkr⟩ := HAT.out.get hf
          obtain ⟨ka, kc, hkv⟩ : ∃ a c, kv = .slice a f.kids.length c := by obtain ⟨a, c, _, _, h, _⟩ := hkr; exact ⟨a, c, h⟩
          subst hkv
          have hbx := BX.out.trans (HBR.out.mono BX.out.size)
          have m5 := (hbx.cell (p := ⟨ag, ao + k * 7 + 5, none⟩) hg).trans c5
          have m6 := (hbx.cell (p := ⟨ag, ao + k * 7 + 6, none⟩) hg).trans c6
          have HKR := Lib.hid (hkr.bl hbx)
          have BR := Lib.hid hbx
          have HF := Lib.hid hf
          have HTK := Lib.hid (txtOk_get HTA.out hf)
          have k1 : (k : Int) < (na : Int) := by omega
          clear c0 c1 c2 c3 c4 c5 c6 hkr hbx hf hs
          cases e1 : (f.op.toList == [])
          · have e2 : f.op.toList.isEmpty = false := by rw [← e1]; cases f.op.toList <;> rfl
            cases e3 : (f.op.toList == [109, 97, 99, 114, 111])
            · have hop : f.op.toList ≠ [] := by intro h; rw [h] at e1; simp at e1
              have hck : checkP f.kids ws = 0 := check_kids HC1.out HF.out hop (by rw [show tMacro.toList = [109, 97, 99, 114, 111] by decide +kernel]; exact e3)
              have HCK := Lib.hid hck
              clear hop hck
              go_wp2_with fail
              go_at_call 30
              refine (fragCheck_any (fun _ => True) f.kids ws _ _ _ (HE.out.below BR.out) HKR.out (HW.out.bl BR.out) HZ.out HTK.out).mono ?_
              rintro e W9 ⟨rfl, hb⟩
              rw [HCK.out]
              have HB9 := Lib.hid (HBR.out.trans (hb.mono HBR.out.size))
              clear hb
              go_wp2_with fail
              go_roundw
              case rel => exact ⟨k + 1, by omega, by go_num, HB9⟩
              case measure => simp [intOf]; omega
            · go_wp2_with fail
              go_roundw
              case rel => exact ⟨k + 1, by omega, by go_num, HBR⟩
              case measure => simp [intOf]; omega
          · have e2 : f.op.toList.isEmpty = true := by rw [← e1]; cases f.op.toList <;> rfl
            go_wp2_with fail
            go_roundw
            case rel => exact ⟨k + 1, by omega, by go_num, HBR⟩
            case measure => simp [intOf]; omega
        · obtain rfl : k = na := by omega
          go_wp2_with fail
          go_ret
          exact ⟨rfl, BX.out.trans (HBR.out.mono BX.out.size)⟩
    · obtain rfl : aa = some ⟨ag, ao, none⟩ := HAA.out (by intro h; rw [h] at HNNA; have := HNNA.out; simp at this; omega)
      obtain rfl : ba = some ⟨bg, bo, none⟩ := HBA.out (by intro h; rw [h] at HNNB; have := HNNB.out; simp at this; omega)
      go_wp2_with (first
        | (at_builtin; refine wpList_met (by first | rfl | simp [Region.wanted, yielded]) (wpList_append_lies _ rfl (.tmp 33) (.tmp 34) 25 rfl W6.heap.size 52 i0 _ 7 88 Tryz.underlying25 hi0 hz0 hz1 hz2 rfl (by omega) (.slice (some ⟨W6.heap.size, 0, none⟩) 0 0) 0 [] (by rfl) HO0.out ⟨ag, ao, none⟩ na ac xsa (by rfl) HLA.out (fun j u h => HLT.out ag ao j u _ (HCA.out j u h) HB7.out) HOA.out (by omega) (by unfold maxLen; omega) (by omega) (by rw [World.size_alloc]; omega) (W6.heap.size + 1) (World.size_alloc _ _) ?_); intro g1 cap1 w10 hown1 hgrow1 hat1 hgl1; simp only [Nat.zero_add, List.nil_append] at hown1; have HB10 := Lib.hid (HB7.out.grown hgrow1 (by rw [World.size_alloc]; omega) (fun r hr => own_base HO0.out hr)); have HO1 := Lib.hid hown1; have hw10 := HB10.out.size; clear hown1 hgrow1 hat1 hgl1)
        | (at_builtin; refine wpList_met (by first | rfl | simp [Region.wanted, yielded]) (wpList_append_lies _ rfl (.tmp 35) (.tmp 36) 25 rfl W6.heap.size 52 i0 _ 7 88 Tryz.underlying25 hi0 hz0 hz1 hz2 rfl (by omega) (.slice (some ⟨g1, 0, none⟩) na cap1) na xsa (by rfl) HO1.out ⟨bg, bo, none⟩ nb bc xsb (by rfl) HLB.out (fun j u h => HLT.out bg bo j u _ (HCB.out j u h) HB10.out) HOB.out (by omega) (by unfold maxLen; omega) (by omega) (by omega) w10.heap.size rfl ?_); intro g2 cap2 w11 hown2 hgrow2 hat2 hgl2; have HB11 := Lib.hid (HB10.out.grown hgrow2 hw10 (fun r hr => own_base HO1.out hr)); have HO2 := Lib.hid hown2; clear hown2 hgrow2 hat2 hgl2))
      go_at_call 30
      have hfr : FrRead w11 (fun _ => True) (.slice (some ⟨g2, 0, none⟩) (na + nb) cap2) (a ++ b) := by
        refine kids_read HO2.out (by rw [List.length_append, HNNA.out, HNNB.out]) ((KidsC.app (a := a) (b := b) (HXA.out) (HXB.out)).keep (S' := fun b => b < W6.heap.size) fun x hx hlt => ⟨HB11.out.block x hx, hx⟩) (fun _ _ _ => trivial) (fun _ _ => trivial)
      have hb11 := B6.out.trans (HB11.out.mono B6.out.size)
      refine (fragCheck_any (fun _ => True) (a ++ b) ws _ _ _ (HE.out.below hb11) hfr (HW.out.bl hb11) HZ.out (HTA.out.app HTB.out)).mono ?_
      rintro e W7 ⟨rfl, hb⟩
      rw [HOK.out]
      have BX := Lib.hid (hb11.trans (hb.mono hb11.size))
      obtain ⟨Wx, hWx⟩ : ∃ Wx : World, Wx = W7 := ⟨_, rfl⟩
      subst hWx
      clear hb hb11 hfr
      go_wp2_with fail
      go_loopw [8] (fun y wr => ∃ (k : Nat), k ≤ na ∧ y = .int .i64 k ∧ Hid (Below Wx.heap.size Wx wr)) (fun y _ => na - (intOf y).toNat)
      case atStart => exact ⟨0, by omega, rfl, Lib.hid (Below.refl _ _)⟩
      case round =>
        obtain ⟨k, hk, rfl, HBR⟩ := hrel
        by_cases hlt : k < na
        · obtain ⟨f, hf⟩ : ∃ f, a[k]? = some f := ⟨_, List.getElem?_eq_getElem (by rw [HNNA.out]; exact hlt)⟩
          obtain ⟨kv, hs, hg, c0, c1, c2, c3, c4, c5, c6, hkr⟩ := HAT.out.get hf
          obtain ⟨ka, kc, hkv⟩ : ∃ a c, kv = .slice a f.kids.length c := by obtain ⟨a, c, _, _, h, _⟩ := hkr; exact ⟨a, c, h⟩
          subst hkv
          have hbx := BX.out.trans (HBR.out.mono BX.out.size)
          have m5 := (hbx.cell (p := ⟨ag, ao + k * 7 + 5, none⟩) hg).trans c5
          have m6 := (hbx.cell (p := ⟨ag, ao + k * 7 + 6, none⟩) hg).trans c6
          have HKR := Lib.hid (hkr.bl hbx)
          have BR := Lib.hid hbx
          have HF := Lib.hid hf
          have HTK := Lib.hid (txtOk_get HTA.out hf)
          have k1 : (k : Int) < (na : Int) := by omega
          clear c0 c1 c2 c3 c4 c5 c6 hkr hbx hf hs
          cases e1 : (f.op.toList == [])
          · have e2 : f.op.toList.isEmpty = false := by rw [← e1]; cases f.op.toList <;> rfl
            cases e3 : (f.op.toList == [109, 97, 99, 114, 111])
            · have hop : f.op.toList ≠ [] := by intro h; rw [h] at e1; simp at e1
              have hck : checkP f.kids ws = 0 := check_kids HC1.out HF.out hop (by rw [show tMacro.toList = [109, 97, 99, 114, 111] by decide +kernel]; exact e3)
              have HCK := Lib.hid hck
              clear hop hck
              go_wp2_with fail
              go_at_call 30
              refine (fragCheck_any (fun _ => True) f.kids ws _ _ _ (HE.out.below BR.out) HKR.out (HW.out.bl BR.out) HZ.out HTK.out).mono ?_
              rintro e W9 ⟨rfl, hb⟩
              rw [HCK.out]
              have HB9 := Lib.hid (HBR.out.trans (hb.mono HBR.out.size))
              clear hb
              go_wp2_with fail
              go_roundw
              case rel => exact ⟨k + 1, by omega, by go_num, HB9⟩
              case measure => simp [intOf]; omega
            · go_wp2_with fail
              go_roundw
              case rel => exact ⟨k + 1, by omega, by go_num, HBR⟩
              case measure => simp [intOf]; omega
          · have e2 : f.op.toList.isEmpty = true := by rw [← e1]; cases f.op.toList <;> rfl
            go_wp2_with fail
            go_roundw
            case rel => exact ⟨k + 1, by omega, by go_num, HBR⟩
            case measure => simp [intOf]; omega
        · obtain rfl : k = na := by omega
          go_wp2_with fail
          go_ret
          exact ⟨rfl, BX.out.trans (HBR.out.mono BX.out.size)⟩
end Go.Proofs.YtopbmndjnjnmcaaGreatDoor
