/- Package lex: the walk of LexGaps. -/
import Derived.Test.YtdfkkeeohbgmbaaDoorB5
import Derived.Test.YtdfkkeeohbgmbaaDoorB4
import Derived.Deep.RegionWith
import Derived.Deep.DeepCutAuto
import Derived.Deep.CutBlock
namespace Go.Proofs.YtdfkkeeohbgmbaaDoor
open Go.RowKit Lx

attribute [local go_sem] Oper.semAt_some

/-- Whether the piece ahead is a comment to the end of its line. -/
def lineAt (l : Bs) (ps : List Pc) (k : Nat) : Bool := decide (0 < k) && (match ps[k - 1]? with | some q => q.kind == 8 && (l[q.at_ + 1]? == some 47) | none => false)

/-- What Same looks at, by the kind and the text. -/
def tkG (x : Nat × Bs) : Int × Int × ByteArray := (x.1, qValue x.1 x.2, ⟨x.2.toArray⟩)
theorem tk3_of (s : ByteArray) (p : Pc) : tk3 s p = tkG (tkOf s.data.toList p) := by
  have h : pcText s p = ⟨((s.data.toList.drop p.at_).take p.len).toArray⟩ := by
    apply bytes_eq
    unfold pcText
    rw [ext_sub, show p.at_ + p.len - p.at_ = p.len by omega]
  unfold tk3 tkG tkOf
  rw [h]

theorem lineAt_no {l : Bs} {ps : List Pc} {k : Nat} (h : lineAt l ps k = false) (q : Pc) (hk : 0 < k) (hq : ps[k - 1]? = some q) (h8 : q.kind = 8) : l[q.at_ + 1]? ≠ some 47 := by
  unfold lineAt at h
  rw [hq] at h
  intro e
  simp [hk, h8, e] at h

set_option maxRecDepth 100000 in
set_option maxHeartbeats 8000000 in
/-- **LexGaps** -/
theorem lexGaps_any (s f : ByteArray) (n : Int) (hm : s.size ≤ maxLen) (hf : f.size ≤ maxLen) (w : World) (he : Env w) :
    Calls Tryd.prog 6 #[.string s, .int .i64 n, .string f] w fun e W => e = .returned (.bool true) ∧ Below w.heap.size w W := by
  have HE := Lib.hid he
  clear he
  go_enter Tryd.func6, Tryd.ntmps6
  go_wp2_with fail
  refine (sane_any _ HE.out).mono ?_
  rintro e W1 ⟨rfl, hb1⟩
  have HE1 := Lib.hid (HE.out.below hb1)
  have HB1 := Lib.hid hb1
  clear hb1
  go_wp2_with fail
  refine (pieces_good s hm _ HE1.out).mono ?_
  rintro e W2 ⟨pv, rfl, hown, hnil, hb2⟩
  have HE2 := Lib.hid (HE1.out.below hb2)
  have HB2 := Lib.hid (bt HB1.out hb2)
  have HO2 := Lib.hid hown
  have hpv := own_form hown
  clear hb2 HE1 HB1 hown hnil
  go_wp2_with fail
  refine (scan_any s hm _ HE2.out).mono ?_
  rintro e W3 ⟨av, rfl, howa, hnila, hb3⟩
  have HE3 := Lib.hid (HE2.out.below hb3)
  have HB3 := Lib.hid (bt HB2.out hb3)
  have HO3 := Lib.hid (owns_bl' HO2.out hb3)
  have HA3 := Lib.hid howa
  clear hb3 HE2 HB2 HO2 howa hnila
  have hlen := qGood_length s.data.toList
  obtain ⟨m, hmm⟩ : ∃ m, (qGood s.data.toList).length = m := ⟨_, rfl⟩
  rw [hmm] at hpv hlen
  have HMM := Lib.hid hmm
  have hO := HO3.out
  rw [hmm] at hO
  have HO := Lib.hid hO
  clear hO HO3 hmm
  obtain ⟨pa, pc, rfl⟩ := hpv
  cases her : ((qErr s.data.toList : Int) != 0)
  · cases hm0 : ((m : Int) == 0)
    · cases hbig : decide ((19800 : Int) < (s.size : Int))
      · have hm1 : 1 ≤ m := by simp at hm0; omega
        have hsmall : s.size ≤ 19800 := by simp at hbig; omega
        go_wp2_with fail
        refine (mod_any n m hm1 hlen _).mono ?_
        rintro e W4 ⟨⟨k, hk, rfl⟩, rfl⟩
        have hnone : (qPieces s.data.toList).2 = none := (qErr_zero _).1 (by simp at her; omega)
        obtain ⟨ps, hps⟩ : ∃ ps, (qPieces s.data.toList).1 = ps := ⟨_, rfl⟩
        have hO := HO.out
        have hM := HMM.out
        rw [qGood_ok _ hnone, hps] at hO hM
        obtain ⟨p, hp⟩ : ∃ p, ps[k]? = some p := ⟨_, List.getElem?_eq_getElem (by omega)⟩
        obtain ⟨g, hpa⟩ : ∃ g, pa = some ⟨g, 0, none⟩ := by
          rcases hO.2 with ⟨h, h0⟩ | ⟨g, cap, cur, h, _⟩
          · omega
          · cases h; exact ⟨g, rfl⟩
        subst hpa
        obtain ⟨c0, c1, c2⟩ := owns_pc hO hp
        have hfol := qPieces_follow s.data.toList
        rw [hps] at hfol
        obtain ⟨q1, q2, q3, q4⟩ := hfol.1.get hp
        simp only [Array.length_toList, ByteArray.size_data] at q2
        have hgz : g < W3.heap.size := World.block_lt_of_cell? _ _ c0
        have HFOL := Lib.hid hfol
        have HNONE := Lib.hid hnone
        have HPS := Lib.hid hps
        have HP := Lib.hid hp
        have HOO := Lib.hid hO
        have hk0 : (0 : Int) ≤ (k : Int) := by omega
        have hk1 : (k : Int) < (m : Int) := by omega
        have l0 := (Below.heap_alloc_cell W3 (.cells #[.int .i64 0, .int .i64 0, .string ⟨#[]⟩] 48) ⟨g, _, none⟩ hgz).trans c0
        have l1 := (Below.heap_alloc_cell W3 (.cells #[.int .i64 0, .int .i64 0, .string ⟨#[]⟩] 48) ⟨g, _, none⟩ hgz).trans c1
        have l2 := (Below.heap_alloc_cell W3 (.cells #[.int .i64 0, .int .i64 0, .string ⟨#[]⟩] 48) ⟨g, _, none⟩ hgz).trans c2
        clear hnone hps hM hp hfol hO hm0 her hbig
        go_upto_region 7 with fail
        go_cut [15] from 51 to 58 (fun s15 wx => s15 = .pointer (some ⟨W3.heap.size, 0, none⟩) ∧ wx = (W3.alloc (.cells #[.int .i64 p.at_, .int .i64 0, .string (gapS f)] 48)).drew)
        case first =>
          go_region_with (go_at_call 22; refine (gapS_any f hf _).mono ?_; rintro e w9 ⟨rfl, rfl⟩)
          all_goals
            go_wp2_with fail
            go_meet
            exact ⟨rfl, rfl⟩
        case rest =>
          obtain ⟨rfl, hW⟩ := hcut
          clear l0 l1 l2
          have hY := heap_alloc_new W3 (.cells #[.int .i64 p.at_, .int .i64 0, .string (gapS f)] 48)
          have hBY := ((Below.refl W3.heap.size W3).alloc (Nat.le_refl _) (.cells #[.int .i64 p.at_, .int .i64 0, .string (gapS f)] 48)).drew
          have hY' : wc.heap[W3.heap.size]? = some (.cells #[.int .i64 p.at_, .int .i64 0, .string (gapS f)] 48 (0, 0)) := by rw [hW]; exact hY
          rw [← hW] at hBY
          have HY := Lib.hid hY'
          have HBY := Lib.hid hBY
          clear hW hY hY' hBY
          obtain ⟨c0, c1, c2⟩ := owns_pc (owns_bl' HOO.out HBY.out) HP.out
          go_upto_if 64 with (fail)
          go_cut [] from 64 to 70 (fun wx => wx.heap[W3.heap.size]? = some (.cells #[.int .i64 p.at_, .int .i64 ((if 7 ≤ p.kind then p.len else 0 : Nat) : Int), .string (gapS f)] 48 (0, 0)) ∧ Below W3.heap.size W3 wx)
          case first =>
            obtain ⟨y0, y1, y2⟩ := cells3g HY.out
            obtain ⟨_, _, _, z0, z1, z2⟩ := cells3 HY.out
            by_cases h7 : 7 ≤ p.kind
            · have d7 : decide ((7 : Int) ≤ (p.kind : Int)) = true := by simp; omega
              have H7 := Lib.hid h7
              clear h7
              rw [d7]
              go_wp2_with fail
              go_meet
              exact ⟨by rw [if_pos H7.out]; exact heap_set _ _ 1 _ _ _ _ HY.out, HBY.out.setCell (p := ⟨W3.heap.size, 1, none⟩) (Nat.le_refl _) _⟩
            · have d7 : decide ((7 : Int) ≤ (p.kind : Int)) = false := by simp; omega
              have H7 := Lib.hid h7
              clear h7
              rw [d7]
              go_wp2_with fail
              go_meet
              exact ⟨by rw [if_neg H7.out]; exact HY.out, HBY.out⟩
          case rest =>
            obtain ⟨hy, hb⟩ := hcut
            obtain ⟨d, hd⟩ : ∃ d : Nat, (if 7 ≤ p.kind then p.len else 0) = d := ⟨_, rfl⟩
            rw [hd] at hy
            have HD := Lib.hid hd
            have HY5 := Lib.hid hy
            have HB5 := Lib.hid hb
            clear hd hy hb HY HBY c0 c1 c2
            have hO5 := owns_bl' HOO.out HB5.out
            go_upto_region 10 with (fail)
            go_cut [102] from 71 to 101 (fun s102 wx => s102 = .bool (lineAt s.data.toList ps k) ∧ wx = wc)
            case first =>
              by_cases hk0' : 0 < k
              · have d0 : decide ((0 : Int) < (k : Int)) = true := by simp; omega
                have d0b : decide (0 < k) = true := by simpa using hk0'
                obtain ⟨q, hq⟩ : ∃ q, ps[k - 1]? = some q := ⟨_, List.getElem?_eq_getElem (by have := (List.getElem?_eq_some_iff.1 HP.out).1; omega)⟩
                obtain ⟨e0, e1, e2⟩ := owns_pc hO5 hq
                obtain ⟨r1, r2, r3, r4⟩ := HFOL.out.1.get hq
                simp only [Array.length_toList, ByteArray.size_data] at r2
                have w2 : (0 : Int) ≤ (k : Int) - 1 := by omega
                have w3 : (k : Int) - 1 < (m : Int) := by omega
                have HQ := Lib.hid hq
                clear hq c0 c1 c2
                cases b8 : ((q.kind : Int) == 8)
                · have hno : Hid (lineAt s.data.toList ps k = false) := Lib.hid (by
                    unfold lineAt; rw [HQ.out]; simp at b8; simp; intro _ h8; omega)
                  go_wp2_with fail
                  go_meet
                  exact ⟨by rw [hno.out], rfl⟩
                · have h8 : q.kind = 8 := by simp at b8; omega
                  have hlen2 : 2 ≤ q.len := by
                    have e : qPieces s.data.toList = qFrom s.data.toList ⟨0, 0, false⟩ := if_neg (by simp; omega)
                    obtain ⟨op, _, g2, g3, g4⟩ := qFrom_mem s.data.toList ps ⟨0, 0, false⟩ (by rw [← e]; exact Prod.ext HPS.out HNONE.out) (k - 1) q HQ.out
                    have := comment_len g2 (by omega)
                    omega
                  have w4 : decide ((1 : Int) < (q.len : Int)) = true := by simp; omega
                  have w5 : IntKind.i64.wrap ((q.at_ : Int) + 1) = (q.at_ : Int) + 1 := IntWalk.i64_in _ (by omega)
                  have w6 : (0 : Int) ≤ (q.at_ : Int) + 1 := by omega
                  have w7 : (q.at_ : Int) + 1 < (s.size : Int) := by omega
                  have hx : q.at_ + 1 < s.size := by omega
                  have hbv : Hid (lineAt s.data.toList ps k = ((s[q.at_ + 1].toNat : Int) == 47)) := Lib.hid (by
                    unfold lineAt
                    rw [HQ.out]
                    have := at_byte s (q.at_ + 1) hx 47
                    simp only [this, h8]
                    simp [hk0'])
                  have H8 := Lib.hid h8
                  clear h8
                  go_wp2_with fail
                  go_meet
                  exact ⟨by rw [hbv.out], rfl⟩
              · have d0 : decide ((0 : Int) < (k : Int)) = false := by simp; omega
                have d0b : decide (0 < k) = false := by simpa using hk0'
                have hno : Hid (lineAt s.data.toList ps k = false) := Lib.hid (by unfold lineAt; rw [d0b]; rfl)
                go_wp2_with fail
                go_meet
                exact ⟨by rw [hno.out], rfl⟩
            case rest =>
              obtain ⟨rfl, rfl⟩ := hcut
              cases hline : lineAt s.data.toList ps k
              · have hdle : p.at_ + d ≤ s.size := by
                  have := HD.out
                  by_cases h7 : 7 ≤ p.kind
                  · rw [if_pos h7] at this; omega
                  · rw [if_neg h7] at this; omega
                have hgz2 := gapS_size f
                have hsp := spliced_size s (gapS f) p.at_ d (by omega) (by omega)
                have htoks := gaps_toks s.data.toList (spliced s p.at_ d (gapS f)).data.toList k p _ HNONE.out (by rw [HPS.out]; exact HP.out) (gapK_ok (l := f.data.toList.take 40))
                  (by rw [spliced_list, gapS_list, List.append_assoc, HD.out]) (fun q h1 h2 h3 => lineAt_no hline q h1 (by rw [← HPS.out]; exact h2) h3)
                obtain ⟨hnone2, hscan⟩ := gaps_scan s.data.toList (spliced s p.at_ d (gapS f)).data.toList (by simp; omega) (by rw [Array.length_toList, ByteArray.size_data]; omega) HNONE.out htoks
                have herr2 : qErr (spliced s p.at_ d (gapS f)).data.toList = 0 := (qErr_zero _).2 hnone2
                have hsz2 : (spliced s p.at_ d (gapS f)).size ≤ 20000 := by omega
                have h3 : (qScan (spliced s p.at_ d (gapS f)).data.toList).map (tk3 (spliced s p.at_ d (gapS f))) = (qScan s.data.toList).map (tk3 s) := by
                  have := congrArg (List.map tkG) hscan
                  rw [List.map_map, List.map_map] at this
                  rw [show tk3 (spliced s p.at_ d (gapS f)) = tkG ∘ tkOf (spliced s p.at_ d (gapS f)).data.toList from funext (tk3_of _), show tk3 s = tkG ∘ tkOf s.data.toList from funext (tk3_of _)]
                  exact this
                have H3 := Lib.hid h3
                have HER2 := Lib.hid herr2
                have hdle2 : d ≤ s.size - p.at_ := by omega
                have hpa2 : p.at_ ≤ s.size := by omega
                clear hsp htoks hnone2 hscan herr2 h3 hline hdle c0 c1 c2 hO5
                obtain ⟨y0, y1, y2⟩ := cells3g HY5.out
                go_wp2_with fail
                refine (change_ok s (gapS f) p.at_ d (by unfold maxLen; omega) hpa2 hdle2 _).mono ?_
                rintro e W6 ⟨rfl, hb6⟩
                have HB6 := Lib.hid (HB5.out.trans (hb6.mono HB5.out.size))
                clear hb6 y0 y1 y2
                generalize spliced s p.at_ d (gapS f) = t at *
                go_wp2_with fail
                refine (scan_any t (by unfold maxLen; omega) _ (HE3.out.below HB6.out)).mono ?_
                rintro e W7 ⟨bv, rfl, hownb, _, hb7⟩
                rw [HER2.out]
                have HB7 := Lib.hid (HB6.out.trans (hb7.mono HB6.out.size))
                have hlb := scan_length t.data.toList
                have hla := scan_length s.data.toList
                have hta := tk_read (owns_bl' HA3.out HB7.out) hla
                have htb := tk_read hownb hlb
                rw [H3.out] at htb
                have HTA := Lib.hid hta
                have HTB := Lib.hid htb
                clear hta htb hownb hb7
                go_wp2_with fail
                refine (same_any av bv _ _ HTA.out HTB.out).mono ?_
                rintro e W8 ⟨rfl, hb8⟩
                have HB8 := Lib.hid (HB7.out.trans (hb8.mono HB7.out.size))
                clear hb8
                go_wp2_with fail
                go_ret
                exact ⟨rfl, bt HB3.out HB8.out⟩
              · go_wp2_with fail
                go_ret
                exact ⟨rfl, bt HB3.out HB5.out⟩
      · go_wp2_with fail
        go_ret
        exact ⟨rfl, HB3.out⟩
    · go_wp2_with fail
      go_ret
      exact ⟨rfl, HB3.out⟩
  · go_wp2_with fail
    go_ret
    exact ⟨rfl, HB3.out⟩
end Go.Proofs.YtdfkkeeohbgmbaaDoor
