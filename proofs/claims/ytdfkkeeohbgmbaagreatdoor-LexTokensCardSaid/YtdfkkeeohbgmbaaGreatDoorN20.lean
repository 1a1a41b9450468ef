/- The walk of LexTokens. -/
import Derived.Test.YtdfkkeeohbgmbaaGreatDoorN16
import Derived.Test.YtdfkkeeohbgmbaaGreatDoorN19
namespace Go.Proofs.YtdfkkeeohbgmbaaGreatDoor
open Go.RowKit Lx Go.Sort

attribute [local go_sem] Oper.semAt_some

set_option maxRecDepth 100000 in
set_option maxHeartbeats 8000000 in
/-- **LexTokens** -/
theorem lexTokens_any (va vb : Value) (ts us : List Tok) (hts : ∀ t ∈ ts, t.text.size ≤ maxLen) (hn41 : ts.length * 41 ≤ 140737488355328) (w : World) (he : Env w) (ha : TokRead w va ts) (hb : TokRead w vb us) :
    Calls Tryz.prog 6 #[va, vb] w fun e W => e = .returned (.bool true) ∧ Below w.heap.size w W := by
  have HVA := Lib.hid ha
  have HVB := Lib.hid hb
  have HTS := Lib.hid hts
  have HE := Lib.hid he
  have HN41 := Lib.hid hn41
  obtain ⟨aa, ca, rfl, hma, hra⟩ := ha
  have HA := Lib.hid hra
  clear hb hts he hn41 hra
  unfold maxLen at hma
  obtain ⟨n, hn⟩ : ∃ n, ts.length = n := ⟨_, rfl⟩
  rw [hn] at hma HVA ⊢
  have HN := Lib.hid hn
  clear hn
  go_enter Tryz.func6, Tryz.ntmps6
  go_wp2_with fail
  refine (sane_any _ HE.out).mono ?_
  rintro e W1 ⟨rfl, hb1⟩
  have HB1 := Lib.hid hb1
  clear hb1
  go_wp2_with fail
  go_loopw [6, 7, 8, 9, 10] (fun x _ _ _ _ wr => ∃ k : Nat, k ≤ n ∧ x = .int .i64 k ∧ Below w.heap.size w wr) (fun x _ _ _ _ _ => n - (intOf x).toNat)
  case atStart => exact ⟨0, by omega, rfl, HB1.out⟩
  case round =>
    obtain ⟨k, hk, rfl, hbw⟩ := hrel
    by_cases hlt : k < n
    · obtain ⟨p, hp⟩ : ∃ p, ts[k]? = some p := ⟨_, List.getElem?_eq_getElem (by have := HN.out; omega)⟩
      obtain ⟨ga, oa, rfl, hga, c0, c1, c2, c3, c4⟩ := HA.out k p hp
      have hm := HTS.out p (List.mem_of_getElem? hp)
      have HP1 := Lib.hid (fun W (hE : Env W) => pattern_tok p hm W hE)
      have HP2 := Lib.hid (fun W => refPattern_tok p hm W)
      have HC1 := Lib.hid (fun W (hE : Env W) => check_tok p hm W hE)
      have HC2 := Lib.hid (fun W => refCheck_tok p hm W)
      obtain ⟨s1, hs1⟩ : ∃ s : ByteArray, (⟨(patS p).1.toArray⟩ : ByteArray) = s := ⟨_, rfl⟩
      obtain ⟨s2, hs2⟩ : ∃ s : ByteArray, (⟨(patS p).2.toArray⟩ : ByteArray) = s := ⟨_, rfl⟩
      obtain ⟨er, her⟩ : ∃ er, tokEr p = er := ⟨_, rfl⟩
      rw [hs1, hs2] at HP1 HP2
      rw [her] at HC1 HC2
      obtain ⟨pk, pn, px, pa, pm⟩ := p
      unfold TokV tokC at HP1 HP2 HC1 HC2
      simp only at *
      have HGA := Lib.hid hga
      have C0 := Lib.hid c0
      have C1 := Lib.hid c1
      have C2 := Lib.hid c2
      have C3 := Lib.hid c3
      have C4 := Lib.hid c4
      have hk0 : (0 : Int) ≤ (k : Int) := by omega
      have hk1 : (k : Int) < (n : Int) := by omega
      have hd : decide (k < n) = true := by simpa using hlt
      have hd2 : decide ((k : Int) < (n : Int)) = true := decide_eq_true hk1
      have HBW := Lib.hid hbw
      have a0 := (hbw.cell (p := ⟨ga, _, none⟩) hga).trans c0
      have a1 := (hbw.cell (p := ⟨ga, _, none⟩) hga).trans c1
      have a2 := (hbw.cell (p := ⟨ga, _, none⟩) hga).trans c2
      have a3 := (hbw.cell (p := ⟨ga, _, none⟩) hga).trans c3
      have a4 := (hbw.cell (p := ⟨ga, _, none⟩) hga).trans c4
      clear hp hm hs1 hs2 her hbw hga c0 c1 c2 c3 c4
      go_wp2_with fail
      refine (HP1.out _ (HE.out.any rfl HBW.out)).mono ?_
      rintro e w2 ⟨rfl, hb2⟩
      have HB2 := Lib.hid (HBW.out.trans (hb2.mono HBW.out.size))
      clear hb2 a0 a1 a2 a3 a4
      have a0 := (HB2.out.cell (p := ⟨ga, _, none⟩) HGA.out).trans C0.out
      have a1 := (HB2.out.cell (p := ⟨ga, _, none⟩) HGA.out).trans C1.out
      have a2 := (HB2.out.cell (p := ⟨ga, _, none⟩) HGA.out).trans C2.out
      have a3 := (HB2.out.cell (p := ⟨ga, _, none⟩) HGA.out).trans C3.out
      have a4 := (HB2.out.cell (p := ⟨ga, _, none⟩) HGA.out).trans C4.out
      go_wp2_with fail
      refine (HP2.out _).mono ?_
      rintro e w3 ⟨rfl, hb3⟩
      have HB3 := Lib.hid (HB2.out.trans (hb3.mono HB2.out.size))
      clear hb3 a0 a1 a2 a3 a4
      have a0 := (HB3.out.cell (p := ⟨ga, _, none⟩) HGA.out).trans C0.out
      have a1 := (HB3.out.cell (p := ⟨ga, _, none⟩) HGA.out).trans C1.out
      have a2 := (HB3.out.cell (p := ⟨ga, _, none⟩) HGA.out).trans C2.out
      have a3 := (HB3.out.cell (p := ⟨ga, _, none⟩) HGA.out).trans C3.out
      have a4 := (HB3.out.cell (p := ⟨ga, _, none⟩) HGA.out).trans C4.out
      have HE3 := Lib.hid (HE.out.any rfl HB3.out)
      have k0 := cell_regrown a0
      have k1 := cell_regrown a1
      have k2 := cell_regrown a2
      have k3 := cell_regrown a3
      have k4 := cell_regrown a4
      have v1 : ∀ d os, Calls Tryz.prog 29 #[.agg #[.int .i64 pk, .int .i64 pn, .string px, .int .i64 pa, .int .i64 pm]] (grow (redrawn w3 d) os) fun e w'' => e = .returned (.int .i64 (er : Nat)) ∧ ∃ p : Regrown, w'' = grow (redrawn w3 p.d) p.os := fun d os => Calls.regrown_of (HC1.out _ (HE3.out.below (below_regrown w3 d os)))
      have v2 : ∀ d os, Calls Tryz.prog 30 #[.agg #[.int .i64 pk, .int .i64 pn, .string px, .int .i64 pa, .int .i64 pm]] (grow (redrawn w3 d) os) fun e w'' => e = .returned (.int .i64 (er : Nat)) ∧ ∃ p : Regrown, w'' = grow (redrawn w3 p.d) p.os := fun d os => Calls.regrown_of (HC2.out _)
      go_wp2_with fail
      refine wp_region_quiet_below (by kernel_rfl) (by kernel_rfl) ?_
      repeat (quiet_step (first | exact v1 _ _ | exact v2 _ _))
      refine wpQuiet_nil ?_
      intro _ hw'
      obtain ⟨⟨dq, osq⟩, hw''⟩ := hw'
      subst hw''
      go_wp2_with fail
      go_roundw
      case rel => exact ⟨k + 1, by omega, rfl, bt HB3.out (below_regrown _ _ _)⟩
      case measure => simp [intOf] <;> omega
    · have hd : decide (k < n) = false := by simpa using hlt
      have hd2 : decide ((k : Int) < (n : Int)) = false := decide_eq_false (by omega)
      have HBW := Lib.hid hbw
      obtain ⟨J, hJ⟩ : ∃ s : ByteArray, (⟨(joinS ts).toArray⟩ : ByteArray) = s := ⟨_, rfl⟩
      obtain ⟨sm, hsm⟩ : ∃ b, sameL ts us = b := ⟨_, rfl⟩
      have HJ := Lib.hid hJ
      have HS := Lib.hid hsm
      have HVA2 := Lib.hid (show TokRead w (.slice aa n ca) ts from HVA.out)
      clear hbw hJ hsm
      go_wp2_with fail
      refine (join_tok _ ts HTS.out HN41.out _ (HE.out.any rfl HBW.out) (HVA2.out.bl HBW.out)).mono ?_
      rintro e w2 ⟨rfl, hb2⟩
      rw [HJ.out]
      have HB2 := Lib.hid (HBW.out.trans (hb2.mono HBW.out.size))
      clear hb2
      go_wp2_with fail
      refine (refJoin_tok _ ts HTS.out HN41.out _ (HVA2.out.bl HB2.out)).mono ?_
      rintro e w3 ⟨rfl, hb3⟩
      rw [HJ.out]
      have HB3 := Lib.hid (HB2.out.trans (hb3.mono HB2.out.size))
      clear hb3
      go_wp2_with fail
      refine (same_tok _ _ ts us _ (HVA2.out.bl HB3.out) (HVB.out.bl HB3.out)).mono ?_
      rintro e w4 ⟨rfl, hb4⟩
      rw [HS.out]
      have HB4 := Lib.hid (HB3.out.trans (hb4.mono HB3.out.size))
      clear hb4
      go_wp2_with fail
      refine (refSame_tok _ _ ts us _ (HVA2.out.bl HB4.out) (HVB.out.bl HB4.out)).mono ?_
      rintro e w5 ⟨rfl, hb5⟩
      rw [HS.out]
      have HB5 := Lib.hid (HB4.out.trans (hb5.mono HB4.out.size))
      clear hb5
      go_wp2_with fail
      go_ret
      exact ⟨rfl, HB5.out⟩
end Go.Proofs.YtdfkkeeohbgmbaaGreatDoor
