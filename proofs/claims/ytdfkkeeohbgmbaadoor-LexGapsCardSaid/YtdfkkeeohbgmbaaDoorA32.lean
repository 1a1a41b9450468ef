/- Package lex: the walk of LexWhole. -/
import Derived.Test.YtdfkkeeohbgmbaaDoorA31
namespace Go.Proofs.YtdfkkeeohbgmbaaDoor
open Go.RowKit Lx

attribute [local go_sem] Oper.semAt_some

set_option maxRecDepth 100000 in
set_option maxHeartbeats 4000000 in
/-- **LexWhole** -/
theorem lexWhole_any (s : ByteArray) (hm : s.size ≤ maxLen) (w : World) (he : Env w) :
    Calls Tryd.prog 4 #[.string s] w fun e W => e = .returned (.bool true) ∧ Below w.heap.size w W := by
  have HE := Lib.hid he
  clear he
  go_enter Tryd.func4, Tryd.ntmps4
  go_wp2_with fail
  refine (sane_any _ HE.out).mono ?_
  rintro e W1 ⟨rfl, hb1⟩
  go_wp2_with fail
  refine (pieces_good s hm _ (HE.out.below hb1)).mono ?_
  rintro e W2 ⟨pv, rfl, hown, hnil, hb2⟩
  have HB := Lib.hid (bt hb1 hb2)
  clear hb1 hb2
  cases her : ((qErr s.data.toList : Int) != 0)
  · have hnone : (qPieces s.data.toList).2 = none := (qErr_zero _).1 (by simp at her; omega)
    have hfol := qPieces_follow s.data.toList
    have hsm := qPieces_small _ hnone
    have hlen := qPieces_length s.data.toList
    simp only [Array.length_toList, ByteArray.size_data] at hfol hsm
    rw [qGood_ok _ hnone] at hown
    obtain ⟨ps, hps⟩ : ∃ ps, (qPieces s.data.toList).1 = ps := ⟨_, rfl⟩
    rw [hps] at hfol hown hlen
    obtain ⟨pa, pn, pc, rfl, rfl⟩ : ∃ a n c, pv = .slice a n c ∧ n = ps.length := by
      rcases hown.2 with ⟨rfl, h0⟩ | ⟨g, cap, cur, rfl, _⟩
      · exact ⟨_, _, _, rfl, h0.symm⟩
      · exact ⟨_, _, _, rfl, rfl⟩
    have HO := Lib.hid hown
    have HF := Lib.hid hfol.1
    have HL := Lib.hid (hfol.2 hnone)
    clear hown hnil hfol hnone hps
    go_wp2_with fail
    go_loop [7, 8] (fun o x => ∃ (k a : Nat), k ≤ ps.length ∧ a ≤ s.size ∧ o = .int .i64 a ∧ x = .int .i64 k ∧ Hid (Follow s.size a (ps.drop k)) ∧ Hid (endAt a (ps.drop k) = s.size)) (fun _ x => ps.length - (intOf x).toNat)
    case atStart => exact ⟨0, 0, by omega, by omega, rfl, rfl, HF, HL⟩
    case round =>
      clear HF HL
      obtain ⟨k, a, hk, ha, rfl, rfl, HF, HL⟩ := hrel
      by_cases hlt : k < ps.length
      · obtain ⟨p, hp⟩ : ∃ p, ps[k]? = some p := ⟨_, List.getElem?_eq_getElem hlt⟩
        have hdr : ps.drop k = p :: ps.drop (k + 1) := by
          obtain ⟨h1, h2⟩ := List.getElem?_eq_some_iff.1 hp
          rw [List.drop_eq_getElem_cons h1, h2]
        have hf := HF.out
        have hl := HL.out
        rw [hdr] at hf hl
        obtain ⟨f1, f2, f3, f4, f5, f6⟩ := hf
        have hl' : endAt (a + p.len) (ps.drop (k + 1)) = s.size := hl
        have HF2 := Lib.hid f6
        have HL2 := Lib.hid hl'
        obtain ⟨g, hpa⟩ : ∃ g, pa = some ⟨g, 0, none⟩ := by
          rcases HO.out.2 with ⟨h, h0⟩ | ⟨g, cap, cur, h, _⟩
          · omega
          · cases h; exact ⟨g, rfl⟩
        subst hpa
        obtain ⟨c0, c1, c2⟩ := owns_pc HO.out hp
        rw [f1] at c1
        have hk0 : (0 : Int) ≤ (k : Int) := by omega
        have hk1 : (k : Int) < (ps.length : Int) := by omega
        have t1 : decide ((p.len : Int) < 1) = false := by simp; omega
        have t2 : decide ((s.size : Int) - (a : Int) < (p.len : Int)) = false := by simp; omega
        have t3 : decide ((p.kind : Int) < 1) = false := by simp; omega
        have t4 : decide ((8 : Int) < (p.kind : Int)) = false := by simp; omega
        have hd : decide (k < ps.length) = true := by simpa using hlt
        clear f1 f6 hl hl' hdr hp
        go_wp2_with fail
        go_round
        case rel => exact ⟨k + 1, a + p.len, by omega, f3, rfl, rfl, HF2, HL2⟩
        case measure => simp [intOf]; omega
      · have hd : decide (k < ps.length) = false := by simpa using hlt
        have hend : a = s.size := by have := HL.out; rw [List.drop_eq_nil_of_le (by omega)] at this; exact this
        have heq : ((a : Int) == (s.size : Int)) = true := by simp; omega
        subst hend
        go_wp2_with fail
        go_ret
        exact ⟨rfl, HB.out⟩
  · have hsome : ¬ (qPieces s.data.toList).2 = none := fun h => by have := (qErr_zero _).2 h; simp [this] at her
    have hg : qGood s.data.toList = [] := if_neg hsome
    have hv := hnil.2 hg
    subst hv
    clear hown hnil hsome hg
    go_wp2_with fail
    go_ret
    exact ⟨rfl, HB.out⟩
end Go.Proofs.YtdfkkeeohbgmbaaDoor
