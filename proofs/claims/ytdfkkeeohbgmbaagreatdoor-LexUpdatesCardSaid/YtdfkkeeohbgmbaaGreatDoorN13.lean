/- Package skerryref01: Update. -/
import Derived.Test.YtdfkkeeohbgmbaaGreatDoorN12
namespace Go.Proofs.YtdfkkeeohbgmbaaGreatDoor
open Go.RowKit Lx

attribute [local go_sem] Oper.semAt_some
attribute [local go_sem ↓] pn_neq pn_eql pn_guard

/-- What Update of the reference holds. -/
structure UR (w : World) (x d : Int) (ins : ByteArray) (W : World) : Prop where
  spl : W.heap[w.heap.size]? = some (.cells #[.int .i64 x, .int .i64 d, .string ins] 40 (0, 0))
  res : W.heap[w.heap.size + 1]? = some (.cells #[.slice none 0 0, .int .i64 0, .int .i64 0, .int .i64 0, .int .i64 0] 72 (0, 0))
  bel : Below w.heap.size w W
section
variable {w W W' : World} {x d : Int} {ins : ByteArray}
theorem UR.lt (h : UR w x d ins W) : w.heap.size + 1 < W.heap.size := (Array.getElem?_eq_some_iff.1 h.res).1
theorem UR.start : UR w x d ins ((w.alloc (.cells #[.int .i64 x, .int .i64 d, .string ins] 40)).alloc (.cells #[.slice none 0 0, .int .i64 0, .int .i64 0, .int .i64 0, .int .i64 0] 72)) :=
  ⟨heap_alloc2_old w _ _, heap_alloc2_new w _ _, ((Below.refl _ w).alloc (Nat.le_refl _) _).alloc (by rw [World.size_alloc]; omega) _⟩
theorem UR.bl (h : UR w x d ins W) (hb : Below W.heap.size W W') : UR w x d ins W' :=
  ⟨(hb.block _ (by have := h.lt; omega)).trans h.spl, (hb.block _ h.lt).trans h.res, h.bel.trans (hb.mono h.bel.size)⟩
theorem UR.scells (h : UR w x d ins W) : W.cell? ⟨w.heap.size, 0, none⟩ = some (.int .i64 x) ∧ W.cell? ⟨w.heap.size, 1, none⟩ = some (.int .i64 d) ∧ W.cell? ⟨w.heap.size, 2, none⟩ = some (.string ins) := by
  refine ⟨by rw [cell_of_row _ _ _ _ _ _ h.spl]; rfl, by rw [cell_of_row _ _ _ _ _ _ h.spl]; rfl, by rw [cell_of_row _ _ _ _ _ _ h.spl]; rfl⟩
theorem UR.cells (h : UR w x d ins W) : W.cell? ⟨w.heap.size + 1, 0, none⟩ = some (.slice none 0 0) ∧ W.cell? ⟨w.heap.size + 1, 1, none⟩ = some (.int .i64 0) ∧ W.cell? ⟨w.heap.size + 1, 2, none⟩ = some (.int .i64 0) ∧ W.cell? ⟨w.heap.size + 1, 3, none⟩ = some (.int .i64 0) ∧ W.cell? ⟨w.heap.size + 1, 4, none⟩ = some (.int .i64 0) ∧
    W.frozen? ⟨w.heap.size + 1, 0, none⟩ = false ∧ W.frozen? ⟨w.heap.size + 1, 1, none⟩ = false ∧ W.frozen? ⟨w.heap.size + 1, 2, none⟩ = false ∧ W.frozen? ⟨w.heap.size + 1, 3, none⟩ = false ∧ W.frozen? ⟨w.heap.size + 1, 4, none⟩ = false := by
  refine ⟨by rw [cell_of_row _ _ _ _ _ _ h.res]; rfl, by rw [cell_of_row _ _ _ _ _ _ h.res]; rfl, by rw [cell_of_row _ _ _ _ _ _ h.res]; rfl, by rw [cell_of_row _ _ _ _ _ _ h.res]; rfl, by rw [cell_of_row _ _ _ _ _ _ h.res]; rfl, ?_, ?_, ?_, ?_, ?_⟩ <;> simp [World.frozen?, h.res]
theorem UR.put (h : UR w x d ins W) (a b c e f : Value) :
    (((((W.setCell ⟨w.heap.size + 1, 0, none⟩ a).setCell ⟨w.heap.size + 1, 1, none⟩ b).setCell ⟨w.heap.size + 1, 2, none⟩ c).setCell ⟨w.heap.size + 1, 3, none⟩ e).setCell ⟨w.heap.size + 1, 4, none⟩ f).heap[w.heap.size + 1]? = some (.cells #[a, b, c, e, f] 72 (0, 0)) ∧
    Below w.heap.size w (((((W.setCell ⟨w.heap.size + 1, 0, none⟩ a).setCell ⟨w.heap.size + 1, 1, none⟩ b).setCell ⟨w.heap.size + 1, 2, none⟩ c).setCell ⟨w.heap.size + 1, 3, none⟩ e).setCell ⟨w.heap.size + 1, 4, none⟩ f) :=
  ⟨heap_set _ _ 4 _ _ _ _ (heap_set _ _ 3 _ _ _ _ (heap_set _ _ 2 _ _ _ _ (heap_set _ _ 1 _ _ _ _ (heap_set _ _ 0 _ _ _ _ h.res)))),
   ((((h.bel.setCell (p := ⟨w.heap.size + 1, 0, none⟩) (Nat.le_succ _) _).setCell (p := ⟨w.heap.size + 1, 1, none⟩) (Nat.le_succ _) _).setCell (p := ⟨w.heap.size + 1, 2, none⟩) (Nat.le_succ _) _).setCell (p := ⟨w.heap.size + 1, 3, none⟩) (Nat.le_succ _) _).setCell (p := ⟨w.heap.size + 1, 4, none⟩) (Nat.le_succ _) _⟩
end
theorem info72 : (Tryz.prog.info? 72).map (·.size) = some 5 := by kernel_rfl
theorem upd_ret {fn : Func} {tmps : Array Value} {W : World} {g : Nat} {cs : Array Value} {Post : Ending → World → Prop} (hf : fn.results = #[.cell 6 72]) (hp : tmps.getD 6 undef = .pointer (some ⟨g, 0, none⟩)) (hg : W.heap[g]? = some (.cells cs 72 (0, 0))) (hs : cs.size = 5) (h : Post (.returned (.agg cs)) W) :
    bodyPost Tryz.prog fn Post Exit.ret { tmps := tmps, defers := [] } W :=
  bodyPost_ret (results_cell_row hf tmps W g 72 cs (0, 0) _ hp hg Tryz.underlying72 rfl (by rw [hs]; exact info72)) rfl h

/-- What Update of the reference returns. -/
def RUpEnd (s ins : ByteArray) (x d : Int) (ps : List Pn) (base : Nat) (e : Ending) (W : World) : Prop :=
  (¬ ((qPieces s.data.toList).2 = none ∧ ps = (qPieces s.data.toList).1.map Pc.n) ∧ e = .returned (.agg #[.slice none 0 0, .int .i64 0, .int .i64 0, .int .i64 0, .int .i64 15])) ∨
  ((qPieces s.data.toList).2 = none ∧ ps = (qPieces s.data.toList).1.map Pc.n ∧ ((¬ Fits s x d ∧ e = .returned (.agg #[.slice none 0 0, .int .i64 0, .int .i64 0, .int .i64 0, .int .i64 1])) ∨
    ∃ x' d' : Nat, x = x' ∧ d = d' ∧ x' ≤ s.size ∧ d' ≤ s.size - x' ∧
      (((qPieces (spliced s x' d' ins).data.toList).2 = none ∧ ∃ v, W.ownsRow base 59 3 v (qPieces (spliced s x' d' ins).data.toList).1.length (pcsCells (qPieces (spliced s x' d' ins).data.toList).1) ∧
        e = .returned (.agg #[v, .int .i64 (qKept ps ((qPieces (spliced s x' d' ins).data.toList).1.map Pc.n) ((ins.size : Int) - d')).1, .int .i64 (qKept ps ((qPieces (spliced s x' d' ins).data.toList).1.map Pc.n) ((ins.size : Int) - d')).2, .int .i64 0, .int .i64 0])) ∨
       ∃ er i, (qPieces (spliced s x' d' ins).data.toList).2 = some (er, i) ∧ e = .returned (.agg #[.slice none 0 0, .int .i64 0, .int .i64 0, .int .i64 i, .int .i64 er]))))

theorem own5 {w W : World} {b n : Nat} {v a c e f h : Value} {xs : List Value} (ho : W.ownsRow b 59 3 v n xs) (hb : w.heap.size + 2 ≤ b) :
    (((((W.setCell ⟨w.heap.size + 1, 0, none⟩ a).setCell ⟨w.heap.size + 1, 1, none⟩ c).setCell ⟨w.heap.size + 1, 2, none⟩ e).setCell ⟨w.heap.size + 1, 3, none⟩ f).setCell ⟨w.heap.size + 1, 4, none⟩ h).ownsRow w.heap.size 59 3 v n xs := by
  have hl : w.heap.size + 1 < b := hb
  have h5 := ownsRow_setCell_below (ownsRow_setCell_below (ownsRow_setCell_below (ownsRow_setCell_below (ownsRow_setCell_below ho (a := ⟨w.heap.size + 1, 0, none⟩) hl a) (a := ⟨w.heap.size + 1, 1, none⟩) hl c) (a := ⟨w.heap.size + 1, 2, none⟩) hl e) (a := ⟨w.heap.size + 1, 3, none⟩) hl f) (a := ⟨w.heap.size + 1, 4, none⟩) hl h
  exact ⟨h5.1, h5.2.imp id (fun ⟨g, cap, cur, h1, h2, h3⟩ => ⟨g, cap, cur, h1, by omega, h3⟩)⟩
theorem ok_small {l : Bs} (h : qErr l = 0) : l.length ≤ 20000 := by
  by_cases hb : 20000 < l.length
  · unfold qErr qPieces at h; rw [if_pos hb] at h; cases h
  · omega

set_option maxRecDepth 100000 in
set_option maxHeartbeats 8000000 in
/-- **Update** -/
theorem refUpdate_any (s ins : ByteArray) (x d : Int) (v : Value) (ps : List Pn) (hm : s.size + ins.size ≤ maxLen) (w : World) (hv : PnRead w v ps) :
    Calls Tryz.prog 42 #[.string s, v, SpV x d ins] w fun e W => RUpEnd s ins x d ps w.heap.size e W ∧ Below w.heap.size w W := by
  obtain ⟨E, hE⟩ : ∃ E, qErr s.data.toList = E := ⟨_, rfl⟩
  obtain ⟨T, hT⟩ : ∃ T, qErrAt s.data.toList = T := ⟨_, rfl⟩
  have EE := Lib.hid hE
  have ET := Lib.hid hT
  have hms : s.size ≤ maxLen := by omega
  have HMS := Lib.hid hms
  have HM := Lib.hid hm
  have HV := Lib.hid hv
  obtain ⟨aa, ca, rfl, hvl, _⟩ := hv
  clear hE hT hms hm
  unfold SpV
  go_enter Tryz.func42, Tryz.ntmps42
  go_wp2_with fail
  refine (refPieces_any s HMS.out _).mono ?_
  rintro e w1 ⟨pv, rfl, hown, _, hb1⟩
  rw [EE.out, ET.out]
  obtain ⟨pa, pn, pc, rfl⟩ := ownsRow_slice hown
  have hU1 := (UR.start (w := w) (x := x) (d := d) (ins := ins)).bl hb1
  have hU2 := hU1.bl ((Below.refl _ w1).alloc (Nat.le_refl _) (.cells #[.slice pa pn pc, .int .i64 T, .int .i64 E] 28))
  have HO := Lib.hid (owns_bl' hown ((Below.refl _ w1).alloc (Nat.le_refl _) (.cells #[.slice pa pn pc, .int .i64 T, .int .i64 E] 28)))
  have HU := Lib.hid hU2
  obtain ⟨c0, c1, c2, c3, c4, f0, f1, f2, f3, f4⟩ := hU2.cells
  clear hU1 hU2 hown hb1
  by_cases hE0 : E = 0
  · subst hE0
    have hlen := qGood_length s.data.toList
    have hnone := (qErr_zero s.data.toList).1 EE.out
    have hgood : qGood s.data.toList = (qPieces s.data.toList).1 := if_pos hnone
    have HNONE := Lib.hid hnone
    have HGOOD := Lib.hid hgood
    have HLEN := Lib.hid hlen
    clear hlen hnone hgood c0 c1 c2 c3 c4 f0 f1 f2 f3 f4
    go_wp2_with fail
    refine (refSamePieces_eq _ _ _ ps _ (pn_read HO.out (Nat.le_trans HLEN.out (by unfold maxLen; omega))) (HV.out.bl HU.out.bel)).mono ?_
    rintro e w3 ⟨rfl, hb3⟩
    have hU3 := HU.out.bl hb3
    obtain ⟨c0, c1, c2, c3, c4, f0, f1, f2, f3, f4⟩ := hU3.cells
    obtain ⟨s0, s1, s2⟩ := hU3.scells
    have HU3 := Lib.hid hU3
    clear hU3 HU HO hb3
    cases hd : decide ((qGood s.data.toList).map Pc.n = ps)
    · have HNE := Lib.hid (show ¬ ((qPieces s.data.toList).2 = none ∧ ps = (qPieces s.data.toList).1.map Pc.n) from fun h => by
        rw [decide_eq_false_iff_not] at hd; exact hd (by rw [HGOOD.out]; exact h.2.symm))
      clear s0 s1 s2
      go_wp2_with fail
      refine upd_ret rfl rfl (HU3.out.put _ _ _ _ _).1 rfl ?_
      exact ⟨.inl ⟨HNE.out, rfl⟩, (HU3.out.put _ _ _ _ _).2⟩
    · have HEQ := Lib.hid (show ps = (qPieces s.data.toList).1.map Pc.n from by
        rw [decide_eq_true_eq] at hd; rw [← hd, HGOOD.out])
      by_cases hf : Fits s x d
      · obtain ⟨x', d', hx', hd', hx1, hd1⟩ : ∃ x' d' : Nat, x = x' ∧ d = d' ∧ x' ≤ s.size ∧ d' ≤ s.size - x' := by
          obtain ⟨h1, h2, h3, h4⟩ := hf
          exact ⟨x.toNat, d.toNat, by omega, by omega, by omega, by omega⟩
        subst hx' hd'
        clear hf hd c0 c1 c2 c3 c4 f0 f1 f2 f3 f4
        go_wp2_with fail
        refine (refChange_ok s ins x' d' HM.out hx1 hd1 _).mono ?_
        rintro e w4 ⟨rfl, hb4⟩
        have hts : (spliced s x' d' ins).size ≤ maxLen := by
          have := HM.out
          unfold spliced; simp only [ByteArray.size_append, ByteArray.size_extract]; omega
        have hts2 : ((spliced s x' d' ins).size : Int) = (s.size : Int) + (ins.size : Int) - (d' : Int) := by
          unfold spliced; simp only [ByteArray.size_append, ByteArray.size_extract]; omega
        obtain ⟨t, ht⟩ : ∃ t, spliced s x' d' ins = t := ⟨_, rfl⟩
        rw [ht] at hts hts2 ⊢
        have HTT := Lib.hid ht
        have hU4 := HU3.out.bl hb4
        have HU4 := Lib.hid hU4
        have HTS := Lib.hid hts
        clear ht hb4 hU4 HU3 s0 s1 s2 hts
        obtain ⟨E2, hE2⟩ : ∃ E, qErr t.data.toList = E := ⟨_, rfl⟩
        obtain ⟨T2, hT2⟩ : ∃ T, qErrAt t.data.toList = T := ⟨_, rfl⟩
        have EE2 := Lib.hid hE2
        have ET2 := Lib.hid hT2
        clear hE2 hT2
        go_wp2_with fail
        refine (refPieces_any t HTS.out _).mono ?_
        rintro e w5 ⟨nv, rfl, hown5, _, hb5⟩
        rw [EE2.out, ET2.out]
        obtain ⟨na, nn, nc, rfl⟩ := ownsRow_slice hown5
        have hU5 := HU4.out.bl hb5
        by_cases hE0 : E2 = 0
        · subst hE0
          have hT0 : T2 = 0 := by rw [← ET2.out]; exact ok_at EE2.out
          subst hT0
          have ht20 := ok_small EE2.out
          have hs20 := ok_small EE.out
          simp only [Array.length_toList, ByteArray.size_data] at ht20 hs20
          have hglen := qGood_length t.data.toList
          have hgood2 : qGood t.data.toList = (qPieces t.data.toList).1 := if_pos ((qErr_zero _).1 EE2.out)
          have hy5 := pn_read hown5 (Nat.le_trans hglen (by unfold maxLen; omega))
          have hown6 := owns_bl' hown5 ((Below.refl _ w5).alloc (Nat.le_refl _) (.cells #[.slice na nn nc, .int .i64 0, .int .i64 0] 28))
          have hN6 := heap_alloc_new w5 (.cells #[.slice na nn nc, .int .i64 0, .int .i64 0] 28)
          have hU6 := hU5.bl ((Below.refl _ w5).alloc (Nat.le_refl _) (.cells #[.slice na nn nc, .int .i64 0, .int .i64 0] 28))
          have hy6 := hy5.bl ((Below.refl _ w5).alloc (Nat.le_refl _) (.cells #[.slice na nn nc, .int .i64 0, .int .i64 0] 28))
          have hx6 := HV.out.bl hU6.bel
          have hxl : ps.length ≤ 20000 := by
            have := qGood_length s.data.toList
            rw [HGOOD.out] at this
            rw [HEQ.out, List.length_map]; exact this
          have hpb : ∀ (k : Nat) (p : Pn), ps[k]? = some p → 0 ≤ p.at_ ∧ p.at_ ≤ 20000 := by
            intro k p hp
            rw [HEQ.out, ← HGOOD.out, List.getElem?_map, Option.map_eq_some_iff] at hp
            obtain ⟨q, hq, rfl⟩ := hp
            obtain ⟨_, h2, _⟩ := (qGood_follow s.data.toList).get hq
            simp only [Array.length_toList, ByteArray.size_data] at h2
            exact ⟨Int.natCast_nonneg _, by show (q.at_ : Int) ≤ 20000; omega⟩
          obtain ⟨ys, hys⟩ : ∃ ys, (qGood t.data.toList).map Pc.n = ys := ⟨_, rfl⟩
          rw [hys] at hy6
          have hyl : ys.length ≤ 20000 := by rw [← hys, List.length_map]; exact hglen
          obtain ⟨sh, hsh⟩ : ∃ sh : Int, (ins.size : Int) - (d' : Int) = sh := ⟨_, rfl⟩
          have hshs : (t.size : Int) = (s.size : Int) + sh := by omega
          have HSH := Lib.hid hsh
          have HYS := Lib.hid hys
          have HG2 := Lib.hid hgood2
          have HP := Lib.hid hpb
          have HO6 := Lib.hid hown6
          have HU6 := Lib.hid hU6
          obtain ⟨ab, cb, hnv, hmb, hrb⟩ := hy6
          cases hnv
          obtain ⟨aa', ca', hva, hma, hra⟩ := hx6
          cases hva
          have HA := Lib.hid hra
          have HB := Lib.hid hrb
          obtain ⟨n, hn⟩ : ∃ n, ps.length = n := ⟨_, rfl⟩
          obtain ⟨m, hmy⟩ : ∃ m, ys.length = m := ⟨_, rfl⟩
          rw [hn] at hxl
          rw [hmy] at hyl hN6 HO6 HU6 HA HB
          have HNN := Lib.hid hn
          have HMM := Lib.hid hmy
          clear hys hgood2 hpb hown5 hown6 hU5 hU6 hy5 hglen hsh hts2 hma hmb hb5 hvl hra hrb
          rw [hn, hmy]
          clear hn hmy
          have hmin : min (n : Int) (m : Int) = ((min n m : Nat) : Int) := by omega
          go_upto_region 11 with fail
          obtain ⟨w6, hw6⟩ : ∃ w6, w5.alloc (.cells #[.slice na m nc, .int .i64 0, .int .i64 0] 28) = w6 := ⟨_, rfl⟩
          rw [hw6] at hN6 HO6 HU6 HA HB ⊢
          obtain ⟨gn, hgn⟩ : ∃ g, w5.heap.size = g := ⟨_, rfl⟩
          rw [hgn] at hN6 ⊢
          have hgn6 : gn < w6.heap.size := (Array.getElem?_eq_some_iff.1 hN6).1
          have HN6 := Lib.hid hN6
          have hk7 := heap_alloc_new w6 (.cells #[.int .i64 0, .int .i64 0] 55)
          have hb7 : Below w6.heap.size w6 (w6.alloc (.cells #[.int .i64 0, .int .i64 0] 55)) := (Below.refl _ w6).alloc (Nat.le_refl _) _
          clear hw6 hgn hN6
          go_upto_block 0 with fail
          obtain ⟨w7, hw7⟩ : ∃ w7, w6.alloc (.cells #[.int .i64 0, .int .i64 0] 55) = w7 := ⟨_, rfl⟩
          obtain ⟨gk, hgk⟩ : ∃ g, w6.heap.size = g := ⟨_, rfl⟩
          rw [hw7] at hk7 hb7 ⊢
          rw [hgk] at hk7 ⊢
          have HGK := Lib.hid hgk
          have HB7 := Lib.hid hb7
          have HK7 := Lib.hid hk7
          have hgle : w6.heap.size ≤ gk := Nat.le_of_eq hgk
          clear hw7 hgk hb7 hk7
          have hcn : ∀ wx : World, Below w6.heap.size w6 wx → wx.cell? ⟨gn, 0, none⟩ = some (.slice na m nc) := fun wx hb => (hb.cell (p := ⟨gn, 0, none⟩) hgn6).trans (by rw [cell_of_row _ _ _ _ _ _ HN6.out]; rfl)
          have HCN := Lib.hid hcn
          clear hcn
          go_cut [] from 53 to 74 (fun wx => wx.heap[gk]? = some (.cells #[.int .i64 (qFront ps ys : Nat), .int .i64 0] 55 (0, 0)) ∧ Below w6.heap.size w6 wx)
          case first =>
            go_wp2_with fail
            go_loopw [] (fun wr => ∃ f : Nat, f ≤ min n m ∧ Hid (qFront ps ys = f + qFront (ps.drop f) (ys.drop f)) ∧ wr.heap[gk]? = some (.cells #[.int .i64 f, .int .i64 0] 55 (0, 0)) ∧ Below w6.heap.size w6 wr) (fun wr => min n m - cellNat gk 0 wr)
            case atStart => exact ⟨0, by omega, Lib.hid (by simp), HK7.out, HB7.out⟩
            case round =>
              obtain ⟨f, hf, HF, hk, hbw⟩ := hrel
              obtain ⟨k0, k1, f0, f1⟩ := cells2 hk
              have l0 := HCN.out _ hbw
              have HK := Lib.hid hk
              clear hk
              by_cases hlt : f < min n m
              · obtain ⟨p, hp⟩ : ∃ p, ps[f]? = some p := ⟨_, List.getElem?_eq_getElem (by have := HNN.out; omega)⟩
                obtain ⟨q, hq⟩ : ∃ q, ys[f]? = some q := ⟨_, List.getElem?_eq_getElem (by have := HMM.out; omega)⟩
                obtain ⟨ga, oa, rfl, hga, a0, a1, a2⟩ := HA.out f p hp
                obtain ⟨gb, ob, rfl, hgb, b0, b1, b2⟩ := HB.out f q hq
                have a0 := (hbw.cell (p := ⟨ga, _, none⟩) hga).trans a0
                have a1 := (hbw.cell (p := ⟨ga, _, none⟩) hga).trans a1
                have a2 := (hbw.cell (p := ⟨ga, _, none⟩) hga).trans a2
                have b0 := (hbw.cell (p := ⟨gb, _, none⟩) hgb).trans b0
                have b1 := (hbw.cell (p := ⟨gb, _, none⟩) hgb).trans b1
                have b2 := (hbw.cell (p := ⟨gb, _, none⟩) hgb).trans b2
                have hk0 : (0 : Int) ≤ (f : Int) := by omega
                have hk1 : (f : Int) < (n : Int) := by omega
                have hk2 : (f : Int) < (m : Int) := by omega
                have HPp := Lib.hid hp
                have HQ := Lib.hid hq
                clear hp hq
                have hd0 : decide ((f : Int) < ((min n m : Nat) : Int)) = true := by simp; omega
                have hd1 : decide (f < min n m) = true := by simpa using hlt
                cases hd : decide (p.kind = q.kind ∧ p.at_ = q.at_ ∧ p.len = q.len)
                · have hpq : p ≠ q := fun h => by subst h; simp at hd
                  have HF2 := Lib.hid (HF.out.trans (by rw [front_no HPp.out HQ.out hpq]; rfl) : qFront ps ys = f)
                  go_wp2_with fail
                  go_quiet (fail)
                  go_wp2_with fail
                  go_meet
                  exact ⟨by rw [HF2.out]; exact HK.out, below_drewN hbw _⟩
                · have hpq : p = q := by simp only [decide_eq_true_eq] at hd; cases p; cases q; simp_all
                  have HF2 := Lib.hid (HF.out.trans (by rw [front_on HPp.out (hpq ▸ HQ.out)]; omega) : qFront ps ys = f + 1 + qFront (ps.drop (f + 1)) (ys.drop (f + 1)))
                  go_wp2_with fail
                  go_quiet (fail)
                  go_wp2_with fail
                  go_roundw
                  case rel => exact ⟨f + 1, by omega, HF2, set0 (n := f) (m := 0) HK.out, (below_drewN hbw _).setCell (p := ⟨gk, 0, none⟩) hgle _⟩
                  case measure =>
                    rw [cellNat_eq (cells2 (set0 (W := wr.drewN _) (n := f) (m := 0) HK.out)).1, cellNat_eq k0]; omega
              · have HF2 := Lib.hid (HF.out.trans (by rw [front_end (by have := HNN.out; have := HMM.out; omega)]; rfl) : qFront ps ys = f)
                have hd0 : decide ((f : Int) < ((min n m : Nat) : Int)) = false := by simp; omega
                have hd1 : decide (f < min n m) = false := by simpa using hlt
                go_wp2_with fail
                go_quiet (fail)
                go_wp2_with fail
                go_meet
                exact ⟨by rw [HF2.out]; exact HK.out, below_drewN hbw _⟩
          case rest =>
            obtain ⟨hk, hbw⟩ := hcut
            have hFl := front_le ps ys
            obtain ⟨F, hF⟩ : ∃ F, qFront ps ys = F := ⟨_, rfl⟩
            have HKq : Hid (qKept ps ys sh = (F, qBack sh (min n m - F) ps.reverse ys.reverse)) := Lib.hid (by unfold qKept; rw [hF, HNN.out, HMM.out])
            rw [hF, HNN.out, HMM.out] at hFl
            rw [hF] at hk
            clear hF
            have HKF := Lib.hid hk
            have HBF := Lib.hid hbw
            clear hk hbw
            go_upto_block 2 with fail
            go_cut [13] from 75 to 116 (fun _ wx => wx.heap[gk]? = some (.cells #[.int .i64 F, .int .i64 (qBack sh (min n m - F) ps.reverse ys.reverse : Nat)] 55 (0, 0)) ∧ Below w6.heap.size w6 wx)
            case first =>
              go_wp2_with fail
              go_loopw [13] (fun _ wr => ∃ b : Nat, b ≤ min n m - F ∧ Hid (qBack sh (min n m - F) ps.reverse ys.reverse = b + qBack sh (min n m - F - b) (ps.reverse.drop b) (ys.reverse.drop b)) ∧ wr.heap[gk]? = some (.cells #[.int .i64 F, .int .i64 b] 55 (0, 0)) ∧ Below w6.heap.size w6 wr) (fun _ wr => min n m - cellNat gk 1 wr)
              case atStart => exact ⟨0, by omega, Lib.hid (by simp), HKF.out, HBF.out⟩
              case round =>
                obtain ⟨b, hbl, HB2, hk, hbw⟩ := hrel
                obtain ⟨k0, k1, f0, f1⟩ := cells2 hk
                have l0 := HCN.out _ hbw
                have hlt1 : gk < wr.heap.size := (Array.getElem?_eq_some_iff.1 hk).1
                have HK := Lib.hid hk
                have HBW := Lib.hid hbw
                clear hk
                by_cases hlt : F + b < min n m
                · obtain ⟨p, hp⟩ : ∃ p, ps[n - 1 - b]? = some p := ⟨_, List.getElem?_eq_getElem (by have := HNN.out; omega)⟩
                  obtain ⟨q, hq⟩ : ∃ q, ys[m - 1 - b]? = some q := ⟨_, List.getElem?_eq_getElem (by have := HMM.out; omega)⟩
                  have hpr : Hid (ps.reverse[b]? = some p) := Lib.hid ((rev_get HNN.out (by omega)).trans hp)
                  have hqr : Hid (ys.reverse[b]? = some q) := Lib.hid ((rev_get HMM.out (by omega)).trans hq)
                  obtain ⟨hp0, hp1⟩ := HP.out _ p hp
                  obtain ⟨ga, oa, rfl, hga, a0, a1, a2⟩ := HA.out _ p hp
                  obtain ⟨gb, ob, rfl, hgb, b0, b1, b2⟩ := HB.out _ q hq
                  have a0 := (hbw.cell (p := ⟨ga, _, none⟩) hga).trans a0
                  have a1 := (hbw.cell (p := ⟨ga, _, none⟩) hga).trans a1
                  have a2 := (hbw.cell (p := ⟨ga, _, none⟩) hga).trans a2
                  have HGB := Lib.hid hgb
                  have B0 := Lib.hid b0
                  have B1 := Lib.hid b1
                  have B2 := Lib.hid b2
                  have hw1 : IntKind.i64.wrap ((m : Int) - 1) = (m : Int) - 1 := by rw [IntKind.wrap_i64]; omega
                  have hw2 : IntKind.i64.wrap ((m : Int) - 1 - (b : Int)) = (m : Int) - 1 - (b : Int) := by rw [IntKind.wrap_i64]; omega
                  have hj0 : (0 : Int) ≤ (n : Int) - 1 - (b : Int) := by omega
                  have hj1 : (n : Int) - 1 - (b : Int) < (n : Int) := by omega
                  have hjm0 : (0 : Int) ≤ (m : Int) - 1 - (b : Int) := by omega
                  have hjm1 : (m : Int) - 1 - (b : Int) < (m : Int) := by omega
                  have hd1 : decide ((F : Int) + (b : Int) < ((min n m : Nat) : Int)) = true := by simp; omega
                  have hd2 : decide (F + b < min n m) = true := by simpa using hlt
                  clear hp hq hga hgb b0 b1 b2
                  go_upto_region 17 with fail
                  rw [show p.at_ + ((s.size : Int) + sh) - (s.size : Int) = p.at_ + sh from by omega]
                  have hA := heap_alloc_new wr (.cells #[.int .i64 p.kind, .int .i64 (p.at_ + sh), .int .i64 p.len] 59)
                  have hb2 := HBW.out.alloc HBW.out.size (.cells #[.int .i64 p.kind, .int .i64 (p.at_ + sh), .int .i64 p.len] 59)
                  have hk2 := (Below.heap_alloc wr (.cells #[.int .i64 p.kind, .int .i64 (p.at_ + sh), .int .i64 p.len] 59) _ hlt1).trans HK.out
                  obtain ⟨w8, hw8⟩ : ∃ w8, wr.alloc (.cells #[.int .i64 p.kind, .int .i64 (p.at_ + sh), .int .i64 p.len] 59) = w8 := ⟨_, rfl⟩
                  obtain ⟨gp, hgp⟩ : ∃ g, wr.heap.size = g := ⟨_, rfl⟩
                  rw [hw8] at hA hb2 hk2 ⊢
                  rw [hgp] at hA ⊢
                  have n0 : w8.cell? ⟨gp, 0, none⟩ = some (.int .i64 p.kind) := by rw [cell_of_row _ _ _ _ _ _ hA]; rfl
                  have n1 : w8.cell? ⟨gp, 1, none⟩ = some (.int .i64 (p.at_ + sh)) := by rw [cell_of_row _ _ _ _ _ _ hA]; rfl
                  have n2 : w8.cell? ⟨gp, 2, none⟩ = some (.int .i64 p.len) := by rw [cell_of_row _ _ _ _ _ _ hA]; rfl
                  obtain ⟨q0, q1, q2, q3⟩ := cells2 hk2
                  have l1 := HCN.out _ hb2
                  have b0 := (hb2.cell (p := ⟨gb, _, none⟩) HGB.out).trans B0.out
                  have b1 := (hb2.cell (p := ⟨gb, _, none⟩) HGB.out).trans B1.out
                  have b2 := (hb2.cell (p := ⟨gb, _, none⟩) HGB.out).trans B2.out
                  have HK2 := Lib.hid hk2
                  have HB2' := Lib.hid hb2
                  clear hA hb2 hk2 hw8 hgp a0 a1 a2 l0 f0 f1
                  cases hd : decide (p.kind = q.kind ∧ p.at_ + sh = q.at_ ∧ p.len = q.len)
                  · have hpq : p.up sh ≠ q := fun h => by subst h; simp [Pn.up] at hd
                    have HB3 := Lib.hid (HB2.out.trans (by rw [back_no hpr.out hqr.out (by omega) hpq]; rfl) : qBack sh (min n m - F) ps.reverse ys.reverse = b)
                    go_wp2_with fail
                    go_quiet (fail)
                    go_wp2_with fail
                    go_meet
                    exact ⟨by rw [HB3.out]; exact HK2.out, below_drewN HB2'.out _⟩
                  · have hpq : p.up sh = q := by simp only [decide_eq_true_eq] at hd; cases p; cases q; simp_all [Pn.up]
                    have HB3 := Lib.hid (HB2.out.trans (by rw [back_on hpr.out hqr.out (by omega) hpq]; omega) : qBack sh (min n m - F) ps.reverse ys.reverse = b + 1 + qBack sh (min n m - F - (b + 1)) (ps.reverse.drop (b + 1)) (ys.reverse.drop (b + 1)))
                    go_wp2_with fail
                    go_quiet (fail)
                    go_wp2_with fail
                    go_roundw
                    case rel => exact ⟨b + 1, by omega, HB3, set1 HK2.out, (below_drewN HB2'.out _).setCell (p := ⟨gk, 1, none⟩) hgle _⟩
                    case measure => rw [cellNat_eq (cells2 (set1 (W := w8.drewN _) HK2.out)).2.1, cellNat_eq k1]; omega
                · have HB3 := Lib.hid (HB2.out.trans (by rw [back_end (by omega)]; rfl) : qBack sh (min n m - F) ps.reverse ys.reverse = b)
                  have hd1 : decide ((F : Int) + (b : Int) < ((min n m : Nat) : Int)) = false := by simp; omega
                  have hd2 : decide (F + b < min n m) = false := by simpa using hlt
                  go_wp2_with fail
                  go_meet
                  exact ⟨by rw [HB3.out]; exact HK.out, HBW.out⟩
            case rest =>
              obtain ⟨hk, hbw⟩ := hcut
              obtain ⟨k0, k1, f0, f1⟩ := cells2 hk
              have l0 := HCN.out _ hbw
              have hU := HU6.out.bl hbw
              obtain ⟨c0, c1, c2, c3, c4, f0, f1, f2, f3, f4⟩ := hU.cells
              have HU := Lib.hid hU
              have HO := Lib.hid (owns_bl' HO6.out hbw)
              clear hU hk hbw
              go_wp2_with fail
              refine upd_ret rfl rfl (HU.out.put _ _ _ _ _).1 rfl ?_
              have hO := HO.out
              have hlen4 : w.heap.size + 2 ≤ w4.heap.size := HU4.out.lt
              refine ⟨.inr ⟨HNONE.out, HEQ.out, .inr ⟨x', d', rfl, rfl, hx1, hd1, .inl ⟨by rw [HTT.out]; exact (qErr_zero _).1 EE2.out, .slice na m nc, ?_, ?_⟩⟩⟩, (HU.out.put _ _ _ _ _).2⟩
              · rw [HTT.out, ← HG2.out]
                exact own5 hO hlen4
              · rw [HTT.out, HSH.out, ← HG2.out, HYS.out, HKq.out]
        · have e1 : ((E2 : Int) != 0) = true := by simp; omega
          have hsome : (qPieces t.data.toList).2 = some (E2, T2) := by
            have h1 := EE2.out
            have h2 := ET2.out
            unfold qErr at h1; unfold qErrAt at h2
            cases hq : (qPieces t.data.toList).2 with
            | none => rw [hq] at h1; exact absurd h1.symm hE0
            | some p => rw [hq] at h1 h2; simp at h1 h2; rw [← h1, ← h2]
          have HS := Lib.hid hsome
          have hU6 := hU5.bl ((Below.refl _ w5).alloc (Nat.le_refl _) (.cells #[.slice na nn nc, .int .i64 T2, .int .i64 E2] 28))
          obtain ⟨c0, c1, c2, c3, c4, f0, f1, f2, f3, f4⟩ := hU6.cells
          have HU6 := Lib.hid hU6
          clear hsome hU5 hU6 hown5 hb5
          go_wp2_with fail
          refine upd_ret rfl rfl (HU6.out.put _ _ _ _ _).1 rfl ?_
          exact ⟨.inr ⟨HNONE.out, HEQ.out, .inr ⟨x', d', rfl, rfl, hx1, hd1, .inr ⟨E2, T2, by rw [HTT.out]; exact HS.out, rfl⟩⟩⟩, (HU6.out.put _ _ _ _ _).2⟩
      · have HF := Lib.hid hf
        clear hd
        go_wp2_with fail
        refine (refChange_bad s ins x d HMS.out hf _).mono ?_
        rintro e w4 ⟨rfl, hb4⟩
        have hU4 := HU3.out.bl hb4
        obtain ⟨c0, c1, c2, c3, c4, f0, f1, f2, f3, f4⟩ := hU4.cells
        have HU4 := Lib.hid hU4
        clear hU4 HU3 hb4 hf s0 s1 s2
        go_wp2_with fail
        refine upd_ret rfl rfl (HU4.out.put _ _ _ _ _).1 rfl ?_
        exact ⟨.inr ⟨HNONE.out, HEQ.out, .inl ⟨HF.out, rfl⟩⟩, (HU4.out.put _ _ _ _ _).2⟩
  · have e1 : ((E : Int) != 0) = true := by simp; omega
    have hne : ¬ ((qPieces s.data.toList).2 = none ∧ ps = (qPieces s.data.toList).1.map Pc.n) := fun h => hE0 (by rw [← EE.out]; exact (qErr_zero _).2 h.1)
    have HNE := Lib.hid hne
    clear hne
    go_wp2_with fail
    refine upd_ret rfl rfl (HU.out.put _ _ _ _ _).1 rfl ?_
    exact ⟨.inl ⟨HNE.out, rfl⟩, (HU.out.put _ _ _ _ _).2⟩
end Go.Proofs.YtdfkkeeohbgmbaaGreatDoor
