/- Package lex: the walk of LexLocal. -/
import Derived.Test.YtdfkkeeohbgmbaaDoorA31
import Derived.Test.YtdfkkeeohbgmbaaDoorA33
namespace Go.Proofs.YtdfkkeeohbgmbaaDoor
open Go.RowKit Lx

attribute [local go_sem] Oper.semAt_some

theorem own_form {W : World} {base e size n : Nat} {v : Value} {xs : List Value} (h : W.ownsRow base e size v n xs) : ∃ a c, v = .slice a n c := by
  rcases h.2 with ⟨rfl, h0⟩ | ⟨g, cap, cur, rfl, _⟩
  · exact ⟨_, _, by rw [h0]⟩
  · exact ⟨_, _, rfl⟩

set_option maxRecDepth 100000 in
set_option maxHeartbeats 4000000 in
/-- **LexLocal** -/
theorem lexLocal_any (s ins : ByteArray) (x d : Int) (hm : s.size + ins.size ≤ maxLen) (w : World) (he : Env w) :
    Calls Tryd.prog 7 #[.string s, SpV x d ins] w fun e W => e = .returned (.bool true) ∧ Below w.heap.size w W := by
  have HE := Lib.hid he
  clear he
  have hms : s.size ≤ maxLen := by omega
  have HM := Lib.hid hm
  clear hm
  unfold SpV
  have BA := (Below.refl w.heap.size w).alloc (Nat.le_refl _) (.cells #[.int .i64 x, .int .i64 d, .string ins] 48)
  go_enter Tryd.func7, Tryd.ntmps7
  go_wp2_with fail
  refine (sane_any _ (HE.out.below BA)).mono ?_
  rintro e W1 ⟨rfl, hb1⟩
  go_wp2_with fail
  refine (pieces_good s hms _ ((HE.out.below BA).below hb1)).mono ?_
  rintro e W2 ⟨pv, rfl, hown, hnil, hb2⟩
  have hb12 := bt hb1 hb2
  have hbA2 : Below w.heap.size w W2 := bt BA hb12
  have h48 := heap_bl (heap_alloc_new w (.cells #[.int .i64 x, .int .i64 d, .string ins] 48)) hb12
  obtain ⟨k0, k1, k2⟩ := cells3g h48
  have hlen := qGood_length s.data.toList
  have hpv := own_form hown
  have hpn : PnRead W2 pv ((qGood s.data.toList).map Pc.n) := pn_read hown (by unfold maxLen; omega)
  have H48 := Lib.hid h48
  have HB := Lib.hid hbA2
  have HO := Lib.hid hown
  have HN := Lib.hid hpn
  clear hnil hb1 hb2 hb12 hbA2 h48 hpn hown BA
  go_wp2_with fail
  refine (update_any s ins x d pv _ HM.out _ (HE.out.below HB.out) HN.out).mono ?_
  rintro e W3 ⟨hup, hb3⟩
  have HB3 := Lib.hid (bt HB.out hb3)
  have HB3' := Lib.hid hb3
  clear hb3
  have herr := qErr_zero s.data.toList
  cases her : ((qErr s.data.toList : Int) != 0)
  · have hnone : (qPieces s.data.toList).2 = none := herr.1 (by simp at her; omega)
    clear herr
    rcases hup with ⟨hno, rfl⟩ | ⟨_, _, ⟨_, rfl⟩ | ⟨x', d', rfl, rfl, hx, hd, ⟨h2, v, hv, _, rfl⟩ | ⟨er, i, h2, rfl⟩⟩⟩
    · exact absurd ⟨hnone, by rw [qGood_ok _ hnone]⟩ hno
    · clear hnone
      go_wp2_with fail
      go_ret
      exact ⟨rfl, (HB3.out).alloc HB3.out.size _⟩
    · have hloc := kept_local s ins x' d' hx hnone h2 ((ins.size : Int) - d')
      have hFB := kept_le ((qPieces s.data.toList).1.map Pc.n) ((qPieces (spliced s x' d' ins).data.toList).1.map Pc.n) ((ins.size : Int) - d')
      have hfol := qPieces_follow s.data.toList
      have hO2 := HO.out
      have hsm := qPieces_small _ hnone
      rw [qGood_ok _ hnone] at hO2 hlen hpv
      rw [qGood_ok _ hnone]
      generalize qKept ((qPieces s.data.toList).1.map Pc.n) ((qPieces (spliced s x' d' ins).data.toList).1.map Pc.n) ((ins.size : Int) - d') = K at *
      obtain ⟨F, B⟩ := K
      simp only [Array.length_toList, ByteArray.size_data, List.length_map] at hfol hFB hloc hsm ⊢
      obtain ⟨ps, hps⟩ : ∃ ps, (qPieces s.data.toList).1 = ps := ⟨_, rfl⟩
      rw [hps] at hfol hO2 hlen hloc hFB hpv
      obtain ⟨n, hn⟩ : ∃ n, ps.length = n := ⟨_, rfl⟩
      rw [hn] at hO2 hlen hFB hpv
      have HF := Lib.hid hfol.1
      have HL := Lib.hid hloc
      have HO2 := Lib.hid (owns_bl' hO2 HB3'.out)
      have HNn := Lib.hid hn
      clear hfol hloc hO2 hps hnone h2 hn HO hv
      obtain ⟨pa, pc, rfl⟩ := hpv
      have hN4 := heap_alloc_new W3 (.cells #[.int .i64 F, .int .i64 B] 53)
      have hB4 := (Below.refl W3.heap.size W3).alloc (Nat.le_refl _) (.cells #[.int .i64 F, .int .i64 B] 53)
      go_wp2_with fail
      generalize hW4 : W3.alloc (.cells #[.int .i64 F, .int .i64 B] 53) = W4 at *
      have hO4 := Lib.hid (owns_bl' HO2.out hB4)
      have h484 := heap_bl (heap_bl H48.out HB3'.out) hB4
      have HN4 := Lib.hid hN4
      have H484 := Lib.hid h484
      have HB4 := Lib.hid (bt HB3.out hB4)
      clear hW4 hN4 hB4 h484 HO2 H48 HB HB3 HB3' k0 k1 k2
      go_loopw [13] (fun o wr => ∃ k : Nat, k ≤ n ∧ o = .int .i64 k ∧ Hid (Below W4.heap.size W4 wr)) (fun o _ => n - (intOf o).toNat)
      case atStart => exact ⟨0, by omega, rfl, Lib.hid (Below.refl _ _)⟩
      case round =>
        obtain ⟨k, hk, rfl, HW⟩ := hrel
        obtain ⟨k0, k1, _⟩ := cells3g (heap_bl H484.out HW.out)
        obtain ⟨f0, f1, _, _⟩ := cells2 (heap_bl HN4.out HW.out)
        by_cases hlt : k < n
        · obtain ⟨p, hp⟩ : ∃ p, ps[k]? = some p := ⟨_, List.getElem?_eq_getElem (by have := HNn.out; omega)⟩
          have hOw := owns_bl' hO4.out HW.out
          obtain ⟨g, hpa⟩ : ∃ g, pa = some ⟨g, 0, none⟩ := by
            rcases hOw.2 with ⟨h, h0⟩ | ⟨g, cap, cur, h, _⟩
            · omega
            · cases h; exact ⟨g, rfl⟩
          subst hpa
          obtain ⟨c0, c1, c2⟩ := owns_pc hOw hp
          obtain ⟨q1, q2, q3, q4⟩ := HF.out.get hp
          have hkF := HL.out k p hp
          have hk0 : (0 : Int) ≤ (k : Int) := by omega
          have hk1 : (k : Int) < (n : Int) := by omega
          have s1 : IntKind.i64.wrap ((p.at_ : Int) + (p.len : Int)) = (p.at_ : Int) + (p.len : Int) := IntWalk.i64_in _ (by omega)
          have s2 : IntKind.i64.wrap ((x' : Int) - 100) = (x' : Int) - 100 := IntWalk.i64_in _ (by omega)
          have s3 : IntKind.i64.wrap ((x' : Int) - 100 - 1) = (x' : Int) - 100 - 1 := IntWalk.i64_in _ (by omega)
          have hd : decide (k < n) = true := by simpa using hlt
          clear hOw hp q2
          by_cases hend : p.at_ + p.len + 101 < x'
          · have t1 : decide ((p.at_ : Int) + (p.len : Int) < (x' : Int) - 100 - 1) = true := by simp; omega
            have t2 : decide (F ≤ k) = false := by have := hkF hend; simp; omega
            clear hkF hend
            go_wp2_with fail
            go_quiet (fail)
            go_wp2_with fail
            go_roundw
            case rel => exact ⟨k + 1, by omega, rfl, Lib.hid (below_drewN HW.out _)⟩
            case measure => simp [intOf]; omega
          · have t1 : decide ((p.at_ : Int) + (p.len : Int) < (x' : Int) - 100 - 1) = false := by simp; omega
            clear hkF hend
            go_wp2_with fail
            go_quiet (fail)
            go_wp2_with fail
            go_roundw
            case rel => exact ⟨k + 1, by omega, rfl, Lib.hid (below_drewN HW.out _)⟩
            case measure => simp [intOf]; omega
        · have hd : decide (k < n) = false := by simpa using hlt
          have t3 : decide ((F : Int) + (B : Int) ≤ (n : Int)) = true := by simp; omega
          go_wp2_with fail
          go_ret
          exact ⟨rfl, bt HB4.out HW.out⟩
    · have hne : ((er : Int) != 0) = true := by have := qPieces_er _ _ h2; simp; omega
      clear hnone h2
      go_wp2_with fail
      go_ret
      exact ⟨rfl, (HB3.out).alloc HB3.out.size _⟩
  · have hnone : ¬ (qPieces s.data.toList).2 = none := fun h => by have := herr.2 h; simp [this] at her
    clear herr
    rcases hup with ⟨hno, rfl⟩ | ⟨hn, _⟩
    · clear hnone hno
      go_wp2_with fail
      go_ret
      exact ⟨rfl, (HB3.out).alloc HB3.out.size _⟩
    · exact absurd hn hnone
end Go.Proofs.YtdfkkeeohbgmbaaDoor
