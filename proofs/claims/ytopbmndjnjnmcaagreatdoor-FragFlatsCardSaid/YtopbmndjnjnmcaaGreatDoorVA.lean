/- Package fragment: Alike of any two lists, size, depth, closing, flat and equal tokens of the reference (skerryref02); the tokens joined: for FragFlats. -/
import Derived.Test.YtopbmndjnjnmcaaGreatDoorTU
import Derived.Lib.AppendStr
import Derived.Laws.IdiomStrings
namespace Go.Proofs.YtopbmndjnjnmcaaGreatDoor
open Go.RowKit Lx
/- (V1) -/
attribute [local go_sem] Oper.semAt_some
theorem alikeT_parts (loose : Bool) (x y : Tok) : alikeT loose x y = ((x.kind == y.kind) && ((x.num == y.num) && ((x.text.toList == y.text.toList) && (loose || ((x.at_ == y.at_) && (x.mark == y.mark)))))) := rfl
set_option maxRecDepth 100000 in
set_option maxHeartbeats 16000000 in
/-- **Alike** of any two lists -/
theorem alikeG_any (S S2 : Nat → Prop) (loose : Bool) : ∀ (n : Nat) (l l2 : List Fr) (v v2 : Value) (w : World), fsz l < n → FrRead w S v l → FrRead w S2 v2 l2 →
    Calls Tryz.prog 20 #[v, v2, .bool loose] w fun e W => e = .returned (.bool (alikeF loose l l2)) ∧ Below w.heap.size w W := by
  intro n
  induction n with
  | zero => intro l l2 v v2 w h; omega
  | succ n ih =>
    intro l l2 v v2 w hn hr hr2
    obtain ⟨va, vc, vg, vo, rfl, ⟨hm1, hm2⟩, ha, hat⟩ := hr
    obtain ⟨ua, uc, ug, uo, rfl, ⟨hu1, hu2⟩, hua, huat⟩ := hr2
    have HAT := Lib.hid hat
    have HA := Lib.hid ha
    have HUT := Lib.hid huat
    have HU := Lib.hid hua
    unfold maxLen at hm1 hu1
    clear hat ha huat hua
    obtain ⟨R, hR⟩ : ∃ R, alikeF loose l l2 = R := ⟨_, rfl⟩
    rw [hR]
    by_cases hll : l.length = l2.length
    case neg =>
      have hRf : R = false := by rw [← hR]; exact alikeF_len loose l l2 hll
      subst hRf
      have d0 : ((l.length : Int) != (l2.length : Int)) = true := by rw [bne_iff_ne]; omega
      go_enter Tryz.func20, Tryz.ntmps20
      go_wp2_with fail
      go_ret
      exact ⟨rfl, Below.refl _ _⟩
    case pos =>
    have HR := Lib.hid hR
    have HLL := Lib.hid hll
    rw [← hll] at hu1 hu2 ⊢
    clear hR hll
    have d0 : ((l.length : Int) != (l.length : Int)) = false := by simp
    go_enter Tryz.func20, Tryz.ntmps20
    go_wp2_with fail
    go_loopw [7] (fun x wr => ∃ (k : Nat), k ≤ l.length ∧ x = .int .i64 k ∧ Hid (alikeF loose (l.drop k) (l2.drop k) = R) ∧ Hid (Below w.heap.size w wr)) (fun x _ => l.length - (intOf x).toNat)
    case atStart => exact ⟨0, by omega, rfl, Lib.hid (by simpa using HR.out), Lib.hid (Below.refl _ _)⟩
    case round =>
      obtain ⟨k, hk, rfl, HRK, HB⟩ := hrel
      by_cases hlt : k < l.length
      · obtain ⟨f, hf⟩ : ∃ f, l[k]? = some f := ⟨_, List.getElem?_eq_getElem hlt⟩
        obtain ⟨f2, hf2⟩ : ∃ f2, l2[k]? = some f2 := ⟨_, List.getElem?_eq_getElem (by rw [← HLL.out]; exact hlt)⟩
        have hva : va = some ⟨vg, vo, none⟩ := HA.out (by intro h; rw [h] at hlt; simp at hlt)
        have hua : ua = some ⟨ug, uo, none⟩ := HU.out (by intro h; have h9 := HLL.out; rw [h, List.length_nil] at h9; omega)
        subst hva hua
        obtain ⟨kv, hs, hg, c0, c1, c2, c3, c4, c5, c6, hkr⟩ := HAT.out.get hf
        obtain ⟨kv2, hs2, hgu, d0', d1, d2, d3, d4, d5, d6, hkr2⟩ := HUT.out.get hf2
        have hfn : fsz f.kids < n := by have := fsz_kids hf; omega
        have hst : alikeF loose (l.drop k) (l2.drop k) = (alikeT loose f.tok f2.tok && ((f.op.toList == f2.op.toList) && (alikeF loose f.kids f2.kids && alikeF loose (l.drop (k + 1)) (l2.drop (k + 1))))) := alikeF_drop loose hf hf2
        have HST := Lib.hid (hst.symm.trans HRK.out)
        have HT : Hid (alikeT loose f.tok f2.tok = ((f.tok.kind == f2.tok.kind) && ((f.tok.num == f2.tok.num) && ((f.tok.text.toList == f2.tok.text.toList) && (loose || ((f.tok.at_ == f2.tok.at_) && (f.tok.mark == f2.tok.mark))))))) := Lib.hid rfl
        obtain ⟨bT, hbT⟩ : ∃ b, alikeT loose f.tok f2.tok = b := ⟨_, rfl⟩
        obtain ⟨bK, hbK⟩ : ∃ b, alikeF loose f.kids f2.kids = b := ⟨_, rfl⟩
        rw [hbT, hbK] at HST
        rw [hbT] at HT
        obtain ⟨tk, htk⟩ : ∃ t, f.tok.kind = t := ⟨_, rfl⟩
        obtain ⟨tn, htn⟩ : ∃ t, f.tok.num = t := ⟨_, rfl⟩
        obtain ⟨tt, htt⟩ : ∃ t, f.tok.text = t := ⟨_, rfl⟩
        obtain ⟨ta, hta⟩ : ∃ t, f.tok.at_ = t := ⟨_, rfl⟩
        obtain ⟨tm, htm⟩ : ∃ t, f.tok.mark = t := ⟨_, rfl⟩
        obtain ⟨fo, hfo⟩ : ∃ t, f.op = t := ⟨_, rfl⟩
        obtain ⟨sk, hsk⟩ : ∃ t, f2.tok.kind = t := ⟨_, rfl⟩
        obtain ⟨sn, hsn⟩ : ∃ t, f2.tok.num = t := ⟨_, rfl⟩
        obtain ⟨st, hst2⟩ : ∃ t, f2.tok.text = t := ⟨_, rfl⟩
        obtain ⟨sa, hsa⟩ : ∃ t, f2.tok.at_ = t := ⟨_, rfl⟩
        obtain ⟨sm, hsm⟩ : ∃ t, f2.tok.mark = t := ⟨_, rfl⟩
        obtain ⟨go, hgo⟩ : ∃ t, f2.op = t := ⟨_, rfl⟩
        rw [htk] at c0
        rw [htn] at c1
        rw [htt] at c2
        rw [hta] at c3
        rw [htm] at c4
        rw [hfo] at c5
        rw [hsk] at d0'
        rw [hsn] at d1
        rw [hst2] at d2
        rw [hsa] at d3
        rw [hsm] at d4
        rw [hgo] at d5
        rw [htk, htn, htt, hta, htm, hsk, hsn, hst2, hsa, hsm] at HT
        rw [hfo, hgo] at HST
        have m0 := (HB.out.cell (p := ⟨vg, vo + k * 7, none⟩) hg).trans c0
        have m1 := (HB.out.cell (p := ⟨vg, vo + k * 7 + 1, none⟩) hg).trans c1
        have m2 := (HB.out.cell (p := ⟨vg, vo + k * 7 + 2, none⟩) hg).trans c2
        have m3 := (HB.out.cell (p := ⟨vg, vo + k * 7 + 3, none⟩) hg).trans c3
        have m4 := (HB.out.cell (p := ⟨vg, vo + k * 7 + 4, none⟩) hg).trans c4
        have h1 := (Below.refl wr.heap.size wr).alloc (Nat.le_refl _) (.cells #[.int .i64 tk, .int .i64 tn, .string tt, .int .i64 ta, .int .i64 tm] 50)
        have b1 := HB.out.trans (h1.mono HB.out.size)
        have n0 := (b1.cell (p := ⟨ug, uo + k * 7, none⟩) hgu).trans d0'
        have n1 := (b1.cell (p := ⟨ug, uo + k * 7 + 1, none⟩) hgu).trans d1
        have n2 := (b1.cell (p := ⟨ug, uo + k * 7 + 2, none⟩) hgu).trans d2
        have n3 := (b1.cell (p := ⟨ug, uo + k * 7 + 3, none⟩) hgu).trans d3
        have n4 := (b1.cell (p := ⟨ug, uo + k * 7 + 4, none⟩) hgu).trans d4
        have h2 := (Below.refl _ (wr.alloc (.cells #[.int .i64 tk, .int .i64 tn, .string tt, .int .i64 ta, .int .i64 tm] 50))).alloc (Nat.le_refl _) (.cells #[.int .i64 sk, .int .i64 sn, .string st, .int .i64 sa, .int .i64 sm] 50)
        have b2 := b1.trans (h2.mono b1.size)
        have q5 := (b2.cell (p := ⟨vg, vo + k * 7 + 5, none⟩) hg).trans c5
        have q6 := (b2.cell (p := ⟨vg, vo + k * 7 + 6, none⟩) hg).trans c6
        have r5 := (b2.cell (p := ⟨ug, uo + k * 7 + 5, none⟩) hgu).trans d5
        have r6 := (b2.cell (p := ⟨ug, uo + k * 7 + 6, none⟩) hgu).trans d6
        have k1 : (k : Int) < (l.length : Int) := by omega
        have HIH := Lib.hid (fun (W : World) (hb : Below w.heap.size w W) => ih f.kids f2.kids kv kv2 W hfn (hkr.bl hb) (hkr2.bl hb))
        rw [hbK] at HIH
        have B2 := Lib.hid b2
        clear c0 c1 c2 c3 c4 c5 c6 d0' d1 d2 d3 d4 d5 d6 hs hs2 hkr hkr2 h1 h2 b1 b2 hf hf2 htk htn htt hta htm hfo hfn hst hbT hbK hsk hsn hst2 hsa hsm hgo HRK
        go_upto_region 8 with fail
        obtain ⟨wx, hwx⟩ : ∃ wx, ((wr.alloc (.cells #[.int .i64 tk, .int .i64 tn, .string tt, .int .i64 ta, .int .i64 tm] 50)).alloc (.cells #[.int .i64 sk, .int .i64 sn, .string st, .int .i64 sa, .int .i64 sm] 50)) = wx := ⟨_, rfl⟩
        have w0 : wx.heap[wr.heap.size]? = some (.cells #[.int .i64 tk, .int .i64 tn, .string tt, .int .i64 ta, .int .i64 tm] 50 (0, 0)) := by rw [← hwx]; exact alloc2_old wr _ _
        have w1 : wx.heap[wr.heap.size + 1]? = some (.cells #[.int .i64 sk, .int .i64 sn, .string st, .int .i64 sa, .int .i64 sm] 50 (0, 0)) := by rw [← hwx]; exact alloc2_new wr _ _
        obtain ⟨x0, x1, x2, x3, x4⟩ := tok_cells (t := ⟨tk, tn, tt, ta, tm⟩) w0
        obtain ⟨y0, y1, y2, y3, y4⟩ := tok_cells (t := ⟨sk, sn, st, sa, sm⟩) w1
        simp only at x0 x1 x2 x3 x4 y0 y1 y2 y3 y4
        rw [hwx] at q5 q6 r5 r6 B2
        rw [hwx]
        clear hwx w0 w1 m0 m1 m2 m3 m4 n0 n1 n2 n3 n4
        go_cut [10] from 32 to 67 (fun v wy => v = .bool bT ∧ wy = wx)
        case first =>
          cases e1 : (tk == sk)
          · obtain rfl : bT = false := by rw [HT.out, e1]; rfl
            go_wp2_with fail
            go_meet
            exact ⟨rfl, rfl⟩
          · cases e2 : (tn == sn)
            · obtain rfl : bT = false := by rw [HT.out, e1, e2]; rfl
              go_wp2_with fail
              go_meet
              exact ⟨rfl, rfl⟩
            · cases e3 : (tt.toList == st.toList)
              · obtain rfl : bT = false := by rw [HT.out, e1, e2, e3]; rfl
                go_wp2_with fail
                go_meet
                exact ⟨rfl, rfl⟩
              · cases loose
                · cases e4 : (ta == sa)
                  · obtain rfl : bT = false := by rw [HT.out, e1, e2, e3, e4]; rfl
                    go_wp2_with fail
                    go_meet
                    exact ⟨rfl, rfl⟩
                  · obtain rfl : bT = (tm == sm) := by rw [HT.out, e1, e2, e3, e4]; rfl
                    go_wp2_with fail
                    go_meet
                    exact ⟨rfl, rfl⟩
                · obtain rfl : bT = true := by rw [HT.out, e1, e2, e3]; rfl
                  go_wp2_with fail
                  go_meet
                  exact ⟨rfl, rfl⟩
        case rest =>
          obtain ⟨rfl, rfl⟩ := hcut
          cases bT
          · obtain rfl : R = false := by rw [← HST.out]; rfl
            go_wp2_with fail
            go_quiet (fail)
            go_wp2_with fail
            go_ret
            exact ⟨rfl, below_drewN B2.out _⟩
          · cases eo : (fo.toList == go.toList)
            · obtain rfl : R = false := by rw [← HST.out, eo]; rfl
              have en : (fo.toList != go.toList) = true := by rw [bne, eo]; rfl
              go_wp2_with fail
              go_quiet (fail)
              go_wp2_with fail
              go_ret
              exact ⟨rfl, below_drewN B2.out _⟩
            · have en : (fo.toList != go.toList) = false := by rw [bne, eo]; rfl
              have HRN : Hid ((bK && alikeF loose (l.drop (k + 1)) (l2.drop (k + 1))) = R) := Lib.hid (by rw [← HST.out, eo]; rfl)
              have BD := Lib.hid B2.out.drew
              have z5 : wc.drew.cell? ⟨vg, vo + k * 7 + 5, none⟩ = some (.string fo) := q5
              have z6 : wc.drew.cell? ⟨vg, vo + k * 7 + 6, none⟩ = some kv := q6
              have p5 : wc.drew.cell? ⟨ug, uo + k * 7 + 5, none⟩ = some (.string go) := r5
              have p6 : wc.drew.cell? ⟨ug, uo + k * 7 + 6, none⟩ = some kv2 := r6
              clear HST HT x0 x1 x2 x3 x4 y0 y1 y2 y3 y4
              go_upto_region 9 with fail
              go_region_held3 (fun w' => w'.cell? ⟨vg, vo + k * 7 + 5, none⟩ = some (.string fo) ∧ w'.cell? ⟨vg, vo + k * 7 + 6, none⟩ = some kv ∧ w'.cell? ⟨ug, uo + k * 7 + 5, none⟩ = some (.string go) ∧ w'.cell? ⟨ug, uo + k * 7 + 6, none⟩ = some kv2)
                (first | exact ⟨z5, z6, p5, p6⟩ | exact ⟨q5, q6, r5, r6⟩ | exact ⟨u5, u6, s5, s6⟩ | go_keep)
                (first
                  | (go_at_call 20; refine (HIH.out _ BD.out).mono ?_; rintro e W5 ⟨rfl, hb5⟩; have B5 := Lib.hid (BD.out.trans (hb5.mono BD.out.size)); have u5 := (hb5.cell (p := ⟨vg, vo + k * 7 + 5, none⟩) (block_lt z5)).trans z5; have u6 := (hb5.cell (p := ⟨vg, vo + k * 7 + 6, none⟩) (block_lt z6)).trans z6; have s5 := (hb5.cell (p := ⟨ug, uo + k * 7 + 5, none⟩) (block_lt p5)).trans p5; have s6 := (hb5.cell (p := ⟨ug, uo + k * 7 + 6, none⟩) (block_lt p6)).trans p6))
              all_goals
                cases bK
                · obtain rfl : R = false := by rw [← HRN.out]; rfl
                  go_wp2_with fail
                  go_ret
                  exact ⟨rfl, B5.out⟩
                · have HRR : Hid (alikeF loose (l.drop (k + 1)) (l2.drop (k + 1)) = R) := HRN
                  go_wp2_with fail
                  go_roundw
                  case rel => exact ⟨k + 1, by omega, rfl, HRR, B5⟩
                  case measure => simp [intOf]; omega
      · obtain rfl : k = l.length := by omega
        have hRt : R = true := by
          rw [← HRK.out, List.drop_length, HLL.out, List.drop_length, alikeF]
        subst hRt
        go_wp2_with fail
        go_ret
        exact ⟨rfl, HB.out⟩
end Go.Proofs.YtopbmndjnjnmcaaGreatDoor
namespace Go.Proofs.YtopbmndjnjnmcaaGreatDoor
open Go.RowKit Lx
/- (V2) -/
attribute [local go_sem] Oper.semAt_some
def rsz (D : Nat) (l : List Fr) : Nat := min (toksP D l).length 6001
theorem rsz_le (D : Nat) (l : List Fr) : rsz D l ≤ 6001 := Nat.min_le_right _ _
theorem rsz_more (D : Nat) {l : List Fr} {k : Nat} (_hk : k ≤ l.length) (h : 6000 < rsz D (l.take k)) : rsz D l = 6001 := by
  have h1 : (toksP D l).length = (toksP D (l.take k)).length + (toksP D (l.drop k)).length := by
    rw [← List.length_append, ← toksP_app, List.take_append_drop]
  unfold rsz at *
  omega
theorem rsz_tok (D : Nat) {l : List Fr} {k : Nat} {f : Fr} (hf : l[k]? = some f) (ho : f.op.toList = []) (h : rsz D (l.take k) ≤ 6000) : rsz D (l.take (k + 1)) = rsz D (l.take k) + 1 := by
  unfold rsz at *
  rw [toksP_take D hf, List.length_append]
  unfold tokF
  rw [if_pos ho]
  simp only [List.length_cons, List.length_nil]
  omega
theorem rsz_deep (D : Nat) {l : List Fr} {k : Nat} {f : Fr} (hf : l[k]? = some f) (ho : f.op.toList ≠ []) (hD : 100 < D) : rsz D (l.take (k + 1)) = rsz D (l.take k) := by
  unfold rsz
  rw [toksP_take D hf, List.length_append]
  unfold tokF
  rw [if_neg ho, if_neg (by omega)]
  simp
theorem rsz_grp (D : Nat) {l : List Fr} {k : Nat} {f : Fr} (hf : l[k]? = some f) (ho : f.op.toList ≠ []) (hD : D ≤ 100) (h : rsz D (l.take k) ≤ 6000) : rsz D (l.take (k + 1)) = min 6001 (rsz D (l.take k) + 2 + rsz (D + 1) f.kids) := by
  unfold rsz at *
  rw [toksP_take D hf, List.length_append]
  unfold tokF
  rw [if_neg ho, if_pos hD]
  simp only [List.length_cons, List.length_append, List.length_nil]
  omega
set_option maxRecDepth 100000 in
set_option maxHeartbeats 4000000 in
/-- **size** of the reference -/
theorem rsize_any (S : Nat → Prop) : ∀ (n : Nat) (l : List Fr) (d : Nat) (v : Value) (w : World), fsz l < n → d ≤ 100 → FrRead w S v l →
    Calls Tryz.prog 53 #[v, .int .i64 6000, .int .i64 d] w fun e W => e = .returned (.int .i64 (rsz (101 - d) l : Nat)) ∧ Below w.heap.size w W := by
  intro n
  induction n with
  | zero => intro l d v w h; omega
  | succ n ih =>
    intro l d v w hn hd hr
    obtain ⟨va, vc, vg, vo, rfl, ⟨hm1, hm2⟩, ha, hat⟩ := hr
    have HAT := Lib.hid hat
    have HA := Lib.hid ha
    have IH := Lib.hid ih
    unfold maxLen at hm1
    clear hat ha ih
    obtain ⟨D, hD⟩ : ∃ D, 101 - d = D := ⟨_, rfl⟩
    rw [hD]
    have HD := Lib.hid hD
    clear hD
    go_enter Tryz.func53, Tryz.ntmps53
    go_wp2_with fail
    go_loopw [7, 8] (fun x y wr => ∃ (k N : Nat), k ≤ l.length ∧ y = .int .i64 k ∧ x = .int .i64 N ∧ N ≤ 6001 ∧ Hid (rsz D (l.take k) = N) ∧ Hid (Below w.heap.size w wr)) (fun _ y _ => l.length - (intOf y).toNat)
    case atStart => exact ⟨0, 0, by omega, rfl, rfl, by omega, Lib.hid (by simp [rsz, toksP]), Lib.hid (Below.refl _ _)⟩
    case round =>
      obtain ⟨k, N, hk, rfl, rfl, hN, HN, HB⟩ := hrel
      by_cases hlt : k < l.length
      · by_cases h6 : N ≤ 6000
        · obtain ⟨f, hf⟩ : ∃ f, l[k]? = some f := ⟨_, List.getElem?_eq_getElem hlt⟩
          have hva : va = some ⟨vg, vo, none⟩ := HA.out (by intro h; rw [h] at hlt; simp at hlt)
          subst hva
          obtain ⟨kv, hs, hg, c0, c1, c2, c3, c4, c5, c6, hkr⟩ := HAT.out.get hf
          have m5 := (HB.out.cell (p := ⟨vg, vo + k * 7 + 5, none⟩) hg).trans c5
          have m6 := (HB.out.cell (p := ⟨vg, vo + k * 7 + 6, none⟩) hg).trans c6
          have hfn : fsz f.kids < n := by have := fsz_kids hf; omega
          have HF := Lib.hid hf
          have HKR := Lib.hid (hkr.bl HB.out)
          have k1 : (k : Int) < (l.length : Int) := by omega
          have k2 : (N : Int) ≤ 6000 := by omega
          clear c0 c1 c2 c3 c4 c5 c6 hkr hf hs hg
          cases e1 : (f.op.toList == [])
          · have ho : f.op.toList ≠ [] := by intro h; rw [h] at e1; simp at e1
            by_cases hd0 : 0 < d
            · have k3 : (0 : Int) < (d : Int) := by omega
              have hw1 : IntKind.i64.wrap ((d : Int) - 1) = ((d - 1 : Nat) : Int) := by rw [IntWalk.i64_in _ (by omega)]; omega
              have HIH := Lib.hid (IH.out f.kids (d - 1) kv wr hfn (by omega) HKR.out)
              rw [show 101 - (d - 1) = D + 1 by have := HD.out; omega] at HIH
              obtain ⟨M, hM⟩ : ∃ M, rsz (D + 1) f.kids = M := ⟨_, rfl⟩
              have hMle : M ≤ 6001 := by rw [← hM]; exact rsz_le _ _
              have HNX : Hid (rsz D (l.take (k + 1)) = min 6001 (N + 2 + M)) := Lib.hid (by rw [rsz_grp D HF.out ho (by have := HD.out; omega) (by rw [HN.out]; exact h6), HN.out, hM])
              rw [hM] at HIH
              clear hM
              go_wp2_with fail
              go_at_call 53
              refine HIH.out.mono ?_
              rintro e W2 ⟨rfl, hb2⟩
              have HB2 := Lib.hid (HB.out.trans (hb2.mono HB.out.size))
              clear hb2
              have hw2 : IntKind.i64.wrap ((N : Int) + 2) = (N : Int) + 2 := by rw [IntWalk.i64_in _ (by omega)]
              have hw3 : IntKind.i64.wrap ((N : Int) + 2 + (M : Int)) = (N : Int) + 2 + (M : Int) := by rw [IntWalk.i64_in _ (by omega)]
              by_cases hmin : N + 2 + M ≤ 6001
              · have hmi : (N : Int) + 2 + (M : Int) ≤ 6001 := by omega
                have HNY : Hid (rsz D (l.take (k + 1)) = N + 2 + M) := Lib.hid (by rw [HNX.out]; omega)
                go_wp2_with fail
                go_roundw
                case rel => exact ⟨k + 1, N + 2 + M, by omega, by go_num, by go_num, hmin, HNY, HB2⟩
                case measure => simp [intOf]; omega
              · have hmi : ¬ (N : Int) + 2 + (M : Int) ≤ 6001 := by omega
                have HNY : Hid (rsz D (l.take (k + 1)) = 6001) := Lib.hid (by rw [HNX.out]; omega)
                go_wp2_with fail
                go_roundw
                case rel => exact ⟨k + 1, 6001, by omega, by go_num, by go_num, by omega, HNY, HB2⟩
                case measure => simp [intOf]; omega
            · have hd1 : d = 0 := by omega
              subst hd1
              have HNX : Hid (rsz D (l.take (k + 1)) = N) := Lib.hid (by rw [rsz_deep D HF.out ho (by have := HD.out; omega), HN.out])
              go_wp2_with fail
              go_roundw
              case rel => exact ⟨k + 1, N, by omega, by go_num, rfl, hN, HNX, HB⟩
              case measure => simp [intOf]; omega
          · have ho : f.op.toList = [] := by simpa using e1
            have HNX : Hid (rsz D (l.take (k + 1)) = N + 1) := Lib.hid (by rw [rsz_tok D HF.out ho (by rw [HN.out]; exact h6), HN.out])
            go_wp2_with fail
            go_roundw
            case rel => exact ⟨k + 1, N + 1, by omega, by go_num, by go_num, by omega, HNX, HB⟩
            case measure => simp [intOf]; omega
        · have k1 : (k : Int) < (l.length : Int) := by omega
          have k2 : ¬ (N : Int) ≤ 6000 := by omega
          have hfin : rsz D l = N := by
            rw [rsz_more D hk (by rw [HN.out]; omega)]; omega
          have HFIN := Lib.hid hfin
          clear hfin
          go_wp2_with fail
          go_ret
          exact ⟨by rw [HFIN.out]; rfl, HB.out⟩
      · obtain rfl : k = l.length := by omega
        have hfin : rsz D l = N := by rw [← HN.out, List.take_length]
        have HFIN := Lib.hid hfin
        clear hfin
        go_wp2_with fail
        go_ret
        exact ⟨by rw [HFIN.out]; rfl, HB.out⟩
end Go.Proofs.YtopbmndjnjnmcaaGreatDoor
namespace Go.Proofs.YtopbmndjnjnmcaaGreatDoor
open Go.RowKit Lx
/- (V3) -/
attribute [local go_sem] Oper.semAt_some
def rdp (m : Nat) (l : List Fr) : Nat := min (m + 1) (dep l)
theorem dep_step {l : List Fr} {k : Nat} {f : Fr} (hf : l[k]? = some f) : dep (l.take (k + 1)) = max (dep (l.take k)) (if f.op.toList = [] then 0 else 1 + dep f.kids) := by
  rw [List.take_add_one, hf, Option.toList_some, dep_app, dep_one]
set_option maxRecDepth 100000 in
set_option maxHeartbeats 4000000 in
/-- **depth** of the reference -/
theorem rdepth_any (S : Nat → Prop) : ∀ (n : Nat) (l : List Fr) (m : Nat) (v : Value) (w : World), fsz l < n → m ≤ 100 → FrRead w S v l →
    Calls Tryz.prog 55 #[v, .int .i64 m] w fun e W => e = .returned (.int .i64 (rdp m l : Nat)) ∧ Below w.heap.size w W := by
  intro n
  induction n with
  | zero => intro l m v w h; omega
  | succ n ih =>
    intro l m v w hn hm hr
    obtain ⟨va, vc, vg, vo, rfl, ⟨hm1, hm2⟩, ha, hat⟩ := hr
    have HAT := Lib.hid hat
    have HA := Lib.hid ha
    have IH := Lib.hid ih
    unfold maxLen at hm1
    clear hat ha ih
    go_enter Tryz.func55, Tryz.ntmps55
    go_wp2_with fail
    go_loopw [5, 6] (fun x y wr => ∃ (k N : Nat), k ≤ l.length ∧ y = .int .i64 k ∧ x = .int .i64 N ∧ N ≤ m + 1 ∧ Hid (rdp m (l.take k) = N) ∧ Hid (Below w.heap.size w wr)) (fun _ y _ => l.length - (intOf y).toNat)
    case atStart => exact ⟨0, 0, by omega, rfl, rfl, by omega, Lib.hid (by simp [rdp, dep]), Lib.hid (Below.refl _ _)⟩
    case round =>
      obtain ⟨k, N, hk, rfl, rfl, hN, HN, HB⟩ := hrel
      by_cases hlt : k < l.length
      · obtain ⟨f, hf⟩ : ∃ f, l[k]? = some f := ⟨_, List.getElem?_eq_getElem hlt⟩
        have hva : va = some ⟨vg, vo, none⟩ := HA.out (by intro h; rw [h] at hlt; simp at hlt)
        subst hva
        obtain ⟨kv, hs, hg, c0, c1, c2, c3, c4, c5, c6, hkr⟩ := HAT.out.get hf
        have m5 := (HB.out.cell (p := ⟨vg, vo + k * 7 + 5, none⟩) hg).trans c5
        have m6 := (HB.out.cell (p := ⟨vg, vo + k * 7 + 6, none⟩) hg).trans c6
        have hfn : fsz f.kids < n := by have := fsz_kids hf; omega
        have HF := Lib.hid hf
        have HKR := Lib.hid (hkr.bl HB.out)
        have k1 : (k : Int) < (l.length : Int) := by omega
        clear c0 c1 c2 c3 c4 c5 c6 hkr hf hs hg
        cases e1 : (f.op.toList == [])
        · have ho : f.op.toList ≠ [] := by intro h; rw [h] at e1; simp at e1
          have e2 : (f.op.toList != []) = true := by rw [bne, e1]; rfl
          by_cases hd0 : 0 < m
          · have k3 : (0 : Int) < (m : Int) := by omega
            have k4 : ((m : Int) == 0) = false := by rw [beq_eq_false_iff_ne]; omega
            have hw1 : IntKind.i64.wrap ((m : Int) - 1) = ((m - 1 : Nat) : Int) := by rw [IntWalk.i64_in _ (by omega)]; omega
            have HIH := Lib.hid (IH.out f.kids (m - 1) kv wr hfn (by omega) HKR.out)
            obtain ⟨M, hM⟩ : ∃ M, rdp (m - 1) f.kids = M := ⟨_, rfl⟩
            have hMle : M ≤ m := by rw [← hM]; unfold rdp; omega
            have HNX : Hid (rdp m (l.take (k + 1)) = max N (1 + M)) := Lib.hid (by have h9 := HN.out; unfold rdp at h9 hM ⊢; rw [dep_step HF.out, if_neg ho]; omega)
            rw [hM] at HIH
            clear hM
            go_wp2_with fail
            go_at_call 55
            refine HIH.out.mono ?_
            rintro e W2 ⟨rfl, hb2⟩
            have HB2 := Lib.hid (HB.out.trans (hb2.mono HB.out.size))
            have m5' := (hb2.cell (p := ⟨vg, vo + k * 7 + 5, none⟩) (block_lt m5)).trans m5
            clear hb2
            have hw3 : IntKind.i64.wrap (1 + (M : Int)) = 1 + (M : Int) := by rw [IntWalk.i64_in _ (by omega)]
            go_wp2_with fail
            go_roundw
            case rel => exact ⟨k + 1, max N (1 + M), by omega, by go_num, by go_num, by omega, HNX, HB2⟩
            case measure => simp [intOf]; omega
          · have hd1 : m = 0 := by omega
            subst hd1
            have HNX : Hid (rdp 0 (l.take (k + 1)) = max N 1) := Lib.hid (by have h9 := HN.out; unfold rdp at h9 ⊢; rw [dep_step HF.out, if_neg ho]; omega)
            go_wp2_with fail
            go_roundw
            case rel => exact ⟨k + 1, max N 1, by omega, by go_num, by go_num, by omega, HNX, HB⟩
            case measure => simp [intOf]; omega
        · have ho : f.op.toList = [] := by simpa using e1
          have e2 : (f.op.toList != []) = false := by rw [bne, e1]; rfl
          have HNX : Hid (rdp m (l.take (k + 1)) = N) := Lib.hid (by have h9 := HN.out; unfold rdp at h9 ⊢; rw [dep_step HF.out, if_pos ho]; omega)
          go_wp2_with fail
          go_roundw
          case rel => exact ⟨k + 1, N, by omega, by go_num, rfl, by omega, HNX, HB⟩
          case measure => simp [intOf]; omega
      · obtain rfl : k = l.length := by omega
        have hfin : rdp m l = N := by rw [← HN.out, List.take_length]
        have HFIN := Lib.hid hfin
        clear hfin
        go_wp2_with fail
        go_ret
        exact ⟨by rw [HFIN.out]; rfl, HB.out⟩
set_option maxRecDepth 100000 in
/-- **Depth** of the reference -/
theorem refDepth_any (S : Nat → Prop) (l : List Fr) (v : Value) (w : World) (hr : FrRead w S v l) :
    Calls Tryz.prog 24 #[v] w fun e W => e = .returned (.int .i64 (depthP l : Nat)) ∧ Below w.heap.size w W := by
  have HR := Lib.hid (rdepth_any S (fsz l + 1) l 100 v w (Nat.lt_succ_self _) (by omega) hr)
  have e1 : rdp 100 l = depthP l := by rw [depthP_dep]; rfl
  rw [e1] at HR
  go_enter Tryz.func24, Tryz.ntmps24
  go_wp2_with fail
  go_at_call 55
  refine HR.out.mono ?_
  rintro e W2 ⟨rfl, hb2⟩
  go_wp2_with fail
  go_ret
  exact ⟨rfl, hb2⟩
set_option maxRecDepth 100000 in
/-- **Size** of the reference -/
theorem refSize_any (S : Nat → Prop) (l : List Fr) (v : Value) (w : World) (hr : FrRead w S v l) :
    Calls Tryz.prog 22 #[v] w fun e W => e = .returned (.int .i64 (sizeP l : Nat)) ∧ Below w.heap.size w W := by
  have HR := Lib.hid (rsize_any S (fsz l + 1) l 100 v w (Nat.lt_succ_self _) (by omega) hr)
  have e1 : rsz (101 - 100) l = sizeP l := rfl
  rw [e1] at HR
  go_enter Tryz.func22, Tryz.ntmps22
  go_wp2_with fail
  go_at_call 53
  refine HR.out.mono ?_
  rintro e W2 ⟨rfl, hb2⟩
  go_wp2_with fail
  go_ret
  exact ⟨rfl, hb2⟩
end Go.Proofs.YtopbmndjnjnmcaaGreatDoor
namespace Go.Proofs.YtopbmndjnjnmcaaGreatDoor
open Go.RowKit Lx
/- (V4) -/
attribute [local go_sem] Oper.semAt_some
theorem close_br (t : Tok) (op : ByteArray) : closeTok t op = if ((rBr op).toList == []) = true then ⟨1, 0, tEnd, t.at_, t.mark⟩ else ⟨5, 0, rBr op, t.at_, t.mark⟩ := by
  have e1 : ((bs1 41).toList == []) = false := by decide +kernel
  have e2 : ((bs1 93).toList == []) = false := by decide +kernel
  have e3 : ((bs1 125).toList == []) = false := by decide +kernel
  have e4 : ((⟨#[]⟩ : ByteArray).toList == []) = true := by decide +kernel
  unfold closeTok rBr
  cases h1 : (op.toList == [40])
  · cases h2 : (op.toList == [91])
    · cases h3 : (op.toList == [123])
      · simp only [Bool.false_eq_true, if_false, e4, if_true]
      · simp only [Bool.false_eq_true, if_false, e3, if_true]
    · simp only [Bool.false_eq_true, if_false, e2, if_true]
  · simp only [e1, Bool.false_eq_true, if_false, if_true]
theorem set5w_heap {W : World} {g : Nat} {x0 x1 x2 x3 x4 : Value} (h : W.heap[g]? = some (.cells #[x0, x1, x2, x3, x4] 50 (0, 0))) (a0 a1 a2 a3 a4 : Value) :
    (((((W.setCell ⟨g, 0, none⟩ a0).setCell ⟨g, 1, none⟩ a1).setCell ⟨g, 2, none⟩ a2).setCell ⟨g, 3, none⟩ a3).setCell ⟨g, 4, none⟩ a4).heap[g]? = some (.cells #[a0, a1, a2, a3, a4] 50 (0, 0)) := by
  have h0 := heap_set' W g 0 a0 h
  have h1 := heap_set' _ g 1 a1 h0
  have h2 := heap_set' _ g 2 a2 h1
  have h3 := heap_set' _ g 3 a3 h2
  have h4 := heap_set' _ g 4 a4 h3
  simp only [List.setIfInBounds_toArray, List.set_cons_zero, List.set_cons_succ] at h4
  exact h4
theorem tok_free {W : World} {g : Nat} {cs : Array Value} (h : W.heap[g]? = some (.cells cs 50 (0, 0))) (j : Nat) : W.frozen? ⟨g, j, none⟩ = false := by
  unfold World.frozen?
  simp [h]
set_option maxRecDepth 100000 in
set_option maxHeartbeats 4000000 in
/-- **closing** -/
theorem rClosing_any (t : Tok) (op : ByteArray) (ka : Option Addr) (kn kc : Nat) (w : World) :
    Calls Tryz.prog 89 #[.agg #[.int .i64 t.kind, .int .i64 t.num, .string t.text, .int .i64 t.at_, .int .i64 t.mark, .string op, .slice ka kn kc]] w fun e W => e = .returned (TokV (closeTok t op)) ∧ Below w.heap.size w W := by
  have hb1 := (Below.refl w.heap.size w).alloc (Nat.le_refl _) (.cells #[.int .i64 t.kind, .int .i64 t.num, .string t.text, .int .i64 t.at_, .int .i64 t.mark, .string op, .slice ka kn kc] 52)
  have hb2 := hb1.alloc hb1.size (.cells #[.int .i64 0, .int .i64 0, .string ⟨#[]⟩, .int .i64 0, .int .i64 0] 50)
  have hN1 := alloc2_old w (.cells #[.int .i64 t.kind, .int .i64 t.num, .string t.text, .int .i64 t.at_, .int .i64 t.mark, .string op, .slice ka kn kc] 52) (.cells #[.int .i64 0, .int .i64 0, .string ⟨#[]⟩, .int .i64 0, .int .i64 0] 50)
  have hN2 := alloc2_new w (.cells #[.int .i64 t.kind, .int .i64 t.num, .string t.text, .int .i64 t.at_, .int .i64 t.mark, .string op, .slice ka kn kc] 52) (.cells #[.int .i64 0, .int .i64 0, .string ⟨#[]⟩, .int .i64 0, .int .i64 0] 50)
  have HB2 := Lib.hid hb2
  have HN1 := Lib.hid hN1
  have HN2 := Lib.hid hN2
  have HCB := Lib.hid (close_br t op)
  clear hb1 hb2 hN1 hN2
  go_enter Tryz.func89, Tryz.ntmps89
  go_wp2_with fail
  go_at_call 108
  refine (rBracket_any op _).mono ?_
  rintro e W3 ⟨rfl, hb3⟩
  have hs2 : ((w.alloc (.cells #[.int .i64 t.kind, .int .i64 t.num, .string t.text, .int .i64 t.at_, .int .i64 t.mark, .string op, .slice ka kn kc] 52)).alloc (.cells #[.int .i64 0, .int .i64 0, .string ⟨#[]⟩, .int .i64 0, .int .i64 0] 50)).heap.size = w.heap.size + 2 := by simp only [World.size_alloc]
  have hM1 := (hb3.block w.heap.size (by rw [hs2]; omega)).trans HN1.out
  have hM2 := (hb3.block (w.heap.size + 1) (by rw [hs2]; omega)).trans HN2.out
  have HB3 := Lib.hid (HB2.out.trans (hb3.mono HB2.out.size))
  obtain ⟨x0, x1, x2, x3, x4, x5, x6⟩ := fr_cells hM1
  obtain ⟨y0, y1, y2, y3, y4⟩ := tok_cells (t := ⟨0, 0, ⟨#[]⟩, 0, 0⟩) hM2
  simp only at y0 y1 y2 y3 y4
  have g0 := tok_free hM2 0
  have g1 := tok_free hM2 1
  have g2 := tok_free hM2 2
  have g3 := tok_free hM2 3
  have g4 := tok_free hM2 4
  have HM2 := Lib.hid hM2
  clear hb3 hM1 hM2 hs2
  obtain ⟨br, hbr⟩ : ∃ br, rBr op = br := ⟨_, rfl⟩
  rw [hbr] at HCB ⊢
  have HLE : w.heap.size ≤ w.heap.size + 1 := Nat.le_succ _
  cases hz : (br.toList == [])
  · go_wp2_with fail
    refine tok_ret rfl rfl (set5w_heap HM2.out (.int .i64 5) (.int .i64 0) (.string br) (.int .i64 t.at_) (.int .i64 t.mark)) rfl ?_
    refine ⟨by rw [HCB.out, hz]; rfl, ?_⟩
    exact ((((HB3.out.setCell (p := ⟨w.heap.size + 1, 0, none⟩) HLE _).setCell (p := ⟨w.heap.size + 1, 1, none⟩) HLE _).setCell (p := ⟨w.heap.size + 1, 2, none⟩) HLE _).setCell (p := ⟨w.heap.size + 1, 3, none⟩) HLE _).setCell (p := ⟨w.heap.size + 1, 4, none⟩) HLE _
  · go_wp2_with fail
    refine tok_ret rfl rfl (set5w_heap HM2.out (.int .i64 1) (.int .i64 0) (.string tEnd) (.int .i64 t.at_) (.int .i64 t.mark)) rfl ?_
    refine ⟨by rw [HCB.out, hz]; rfl, ?_⟩
    exact ((((HB3.out.setCell (p := ⟨w.heap.size + 1, 0, none⟩) HLE _).setCell (p := ⟨w.heap.size + 1, 1, none⟩) HLE _).setCell (p := ⟨w.heap.size + 1, 2, none⟩) HLE _).setCell (p := ⟨w.heap.size + 1, 3, none⟩) HLE _).setCell (p := ⟨w.heap.size + 1, 4, none⟩) HLE _
end Go.Proofs.YtopbmndjnjnmcaaGreatDoor
namespace Go.Proofs.YtopbmndjnjnmcaaGreatDoor
open Go.RowKit Lx
/- (V5) -/
attribute [local go_sem] Oper.semAt_some
theorem toksC_single (t : Tok) : toksC [t] = [.int .i64 t.kind, .int .i64 t.num, .string t.text, .int .i64 t.at_, .int .i64 t.mark] := rfl
theorem toksU_take {l : List Fr} {k : Nat} {f : Fr} (hf : l[k]? = some f) : toksU (l.take (k + 1)) = toksU (l.take k) ++ tokFU f := by
  rw [List.take_add_one, hf, Option.toList_some, toksU_app, toksU_one]
theorem toksU_part {l : List Fr} {k : Nat} {f : Fr} (hf : l[k]? = some f) : (toksU (l.take k)).length + (tokFU f).length ≤ (toksU l).length := by
  have h1 : toksU l = toksU (l.take (k + 1)) ++ toksU (l.drop (k + 1)) := by rw [← toksU_app, List.take_append_drop]
  rw [h1, toksU_take hf]
  simp only [List.length_append]
  omega
/-- A list of tokens that a call owns has got one more. -/
theorem own_tok {W : World} {base N : Nat} {v : Value} {Z : List Tok} {t : Tok} (hN : Z.length = N) (h : W.ownsRow base 50 5 v (N + 1) (toksC Z ++ [.int .i64 t.kind, .int .i64 t.num, .string t.text, .int .i64 t.at_, .int .i64 t.mark])) : W.ownsRow base 50 5 v (Z ++ [t]).length (toksC (Z ++ [t])) := by
  rw [toksC_app, toksC_single, List.length_append, hN]; exact h
theorem cells7 {w W : World} {g o : Nat} {a0 a1 a2 a3 a4 a5 a6 : Value} (hb : W.heap[g]? = w.heap[g]?) (c0 : w.cell? ⟨g, o, none⟩ = some a0) (c1 : w.cell? ⟨g, o + 1, none⟩ = some a1) (c2 : w.cell? ⟨g, o + 2, none⟩ = some a2) (c3 : w.cell? ⟨g, o + 3, none⟩ = some a3) (c4 : w.cell? ⟨g, o + 4, none⟩ = some a4) (c5 : w.cell? ⟨g, o + 5, none⟩ = some a5) (c6 : w.cell? ⟨g, o + 6, none⟩ = some a6) :
    W.cell? ⟨g, o, none⟩ = some a0 ∧ W.cell? ⟨g, o + 1, none⟩ = some a1 ∧ W.cell? ⟨g, o + 2, none⟩ = some a2 ∧ W.cell? ⟨g, o + 3, none⟩ = some a3 ∧ W.cell? ⟨g, o + 4, none⟩ = some a4 ∧ W.cell? ⟨g, o + 5, none⟩ = some a5 ∧ W.cell? ⟨g, o + 6, none⟩ = some a6 := by
  have h : ∀ j, W.cell? ⟨g, j, none⟩ = w.cell? ⟨g, j, none⟩ := fun j => World.cell?_of_block (a := ⟨g, j, none⟩) hb
  exact ⟨(h _).trans c0, (h _).trans c1, (h _).trans c2, (h _).trans c3, (h _).trans c4, (h _).trans c5, (h _).trans c6⟩
set_option maxRecDepth 100000 in
set_option maxHeartbeats 16000000 in
/-- **flat** of the reference -/
theorem rflat_any (base : Nat) : ∀ (n : Nat) (l : List Fr) (xs : List Tok) (oa : Option Addr) (on oc : Nat) (v : Value) (w : World), fsz l < n → xs.length + (toksU l).length ≤ 20000 → base ≤ w.heap.size →
    FrRead w (fun b => b < base) v l → w.ownsRow base 50 5 (.slice oa on oc) xs.length (toksC xs) →
    Calls Tryz.prog 60 #[.slice oa on oc, v] w fun e W => ∃ a n c, e = .returned (.slice a n c) ∧ W.ownsRow base 50 5 (.slice a n c) (xs ++ toksU l).length (toksC (xs ++ toksU l)) ∧ GrowV w W (.slice oa on oc) (.slice a n c) := by
  intro n
  induction n with
  | zero => intro l xs oa on oc v w h; omega
  | succ n ih =>
    intro l xs oa on oc v w hn hxl hbs hr ho
    have HO := Lib.hid ho
    obtain ⟨va, vc, vg, vo, rfl, ⟨hm1, hm2⟩, ha, hat⟩ := hr
    have HAT := Lib.hid hat
    have HA := Lib.hid ha
    have IH := Lib.hid ih
    obtain ⟨i0, hi0, hz0, hz1, hz2⟩ := info_parts info50z
    unfold maxLen at hm1
    clear ho hat ha ih
    go_enter Tryz.func60, Tryz.ntmps60
    go_wp2_with fail
    go_loopw [0, 5] (fun y x wr => ∃ (k : Nat), k ≤ l.length ∧ x = .int .i64 k ∧ (∃ a n c, y = .slice a n c) ∧ Hid (wr.ownsRow base 50 5 y (xs ++ toksU (l.take k)).length (toksC (xs ++ toksU (l.take k)))) ∧ Hid (GrowV w wr (.slice oa on oc) y)) (fun _ x _ => l.length - (intOf x).toNat)
    case atStart => exact ⟨0, by omega, rfl, ⟨_, _, _, rfl⟩, Lib.hid (by simpa [toksU] using HO.out), Lib.hid (GrowV.refl _ _)⟩
    case round =>
      obtain ⟨k, hk, rfl, ⟨ya, yn, yc, rfl⟩, HW, HG⟩ := hrel
      obtain ⟨N, hN⟩ : ∃ N, (xs ++ toksU (l.take k)).length = N := ⟨_, rfl⟩
      rw [hN] at HW
      have hN2 : xs.length + (toksU (l.take k)).length = N := by rw [← hN, List.length_append]
      have HN := Lib.hid hN
      clear hN
      by_cases hlt : k < l.length
      · obtain ⟨f, hf⟩ : ∃ f, l[k]? = some f := ⟨_, List.getElem?_eq_getElem hlt⟩
        have hva : va = some ⟨vg, vo, none⟩ := HA.out (by intro h; rw [h] at hlt; simp at hlt)
        subst hva
        obtain ⟨kv, hs, hg, c0, c1, c2, c3, c4, c5, c6, hkr⟩ := HAT.out.get hf
        obtain ⟨ka, kc, hkv⟩ : ∃ a c, kv = .slice a f.kids.length c := by obtain ⟨a, c, _, _, h, _⟩ := hkr; exact ⟨a, c, h⟩
        subst hkv
        have hbl := HG.out.below HO.out hbs
        have hpl := toksU_part hf
        have htk := toksU_take hf
        have hfn : fsz f.kids < n := by have := fsz_kids hf; omega
        have hsz := hbl.size
        have hNf : N + (tokFU f).length ≤ 20000 := by omega
        have HC := Lib.hid (cells7 (hbl.block vg hs) c0 c1 c2 c3 c4 c5 c6)
        have HKR := Lib.hid (hkr.keep (W' := wr) (S' := fun b => b < base) fun b hb hlt => ⟨hbl.block b hb, hb⟩)
        have HTK := Lib.hid htk
        have k1 : (k : Int) < (l.length : Int) := by omega
        have hbase : base ≤ wr.heap.size := by omega
        have hvl : vg < wr.heap.size := by omega
        obtain ⟨m0, m1, m2, m3, m4, m5, m6⟩ := HC.out
        have HF := Lib.hid hf
        have hNN : N + 1 ≤ 20000 := by
          have : 1 ≤ (tokFU f).length := by unfold tokFU; split <;> simp
          omega
        have HOA := Lib.hid (owns_bl' HW.out ((Below.refl wr.heap.size wr).alloc (Nat.le_refl _) (.cells #[.int .i64 f.tok.kind, .int .i64 f.tok.num, .string f.tok.text, .int .i64 f.tok.at_, .int .i64 f.tok.mark] 50)))
        clear c0 c1 c2 c3 c4 c5 c6 hkr hbl hg hpl htk hN2 hf
        cases e1 : (f.op.toList == [])
        · have e2 : (f.op.toList != []) = true := by rw [bne, e1]; rfl
          have hop : ¬ f.op.toList = [] := by intro h; rw [h] at e1; simp at e1
          have hpf : tokFU f = f.tok :: (toksU f.kids ++ [closeTok f.tok f.op]) := by unfold tokFU; rw [if_neg hop]
          have hpl : (tokFU f).length = (toksU f.kids).length + 2 := by rw [hpf]; simp
          obtain ⟨ct, hct⟩ : ∃ ct, closeTok f.tok f.op = ct := ⟨_, rfl⟩
          rw [hct] at hpf
          have HCT := Lib.hid hct
          have HPF := Lib.hid hpf
          clear hpf hct
          go_wp2_with (at_builtin; go_must (refine wpList_append_lies _ rfl (.tmp 12) (.tmp 18) 22 rfl base 50 i0 _ 5 48 Tryz.underlying22 hi0 hz0 hz1 hz2 rfl (by omega) (.slice ya yn yc) N _ (by rfl) HOA.out ⟨wr.heap.size, 0, none⟩ 1 1 [.int .i64 f.tok.kind, .int .i64 f.tok.num, .string f.tok.text, .int .i64 f.tok.at_, .int .i64 f.tok.mark] (by rfl) (by rfl) (World.news_of_block (t := 50) (fr := (0, 0)) (heap_alloc_new wr _)) (by simp [Value.oneCell']) (by omega) (by unfold maxLen; omega) (by omega) (by simp only [World.size_alloc]; omega) (wr.heap.size + 1) (by simp only [World.size_alloc]) ?_); intro g1 cap1 w10 hown1 hgrow1 hat1 hgl1; have hG1 := growA (m := N + 1) (cap := cap1) ((Below.refl _ wr).alloc (Nat.le_refl _) (.cells #[.int .i64 f.tok.kind, .int .i64 f.tok.num, .string f.tok.text, .int .i64 f.tok.at_, .int .i64 f.tok.mark] 50)) hgrow1 hat1 (Nat.le_succ _); obtain ⟨p0, p1, p2, p3, p4, p5, p6⟩ := cells7 (hG1.low HW.out hs hvl) m0 m1 m2 m3 m4 m5 m6; have HO1 := Lib.hid (own_tok HN.out hown1); have HKR1 := Lib.hid (HKR.out.keep (W' := w10) (S' := fun b => b < base) fun b hb hlt => ⟨hG1.low HW.out hb hlt, hb⟩); have hs10 := hG1.1.size; have HG1 := Lib.hid (HG.out.trans hG1); clear m0 m1 m2 m3 m4 m5 m6 hown1 hgrow1 hat1 hgl1 hG1)
          have hb10 : base ≤ w10.heap.size := by omega
          have hv10 : vg < w10.heap.size := by omega
          have hq3 : N + (toksU f.kids).length + 2 ≤ 20000 := by omega
          have hx1 : (xs ++ toksU (l.take k) ++ [f.tok]).length = N + 1 := by rw [List.length_append, HN.out]; rfl
          have HCALL := Lib.hid (fun (W' : World) (hb : Below w10.heap.size w10 W') => IH.out f.kids (xs ++ toksU (l.take k) ++ [f.tok]) (some ⟨g1, 0, none⟩) (N + 1) cap1 (.slice ka f.kids.length kc) W' hfn (by rw [hx1]; omega) (Nat.le_trans hb10 hb.size) (HKR1.out.bl hb) (owns_bl' HO1.out hb))
          clear hpl hx1
          have BD := Lib.hid ((Below.refl w10.heap.size w10).drew)
          go_region_held3 (fun w' => w'.cell? ⟨vg, vo + k * 7, none⟩ = some (.int .i64 f.tok.kind) ∧ w'.cell? ⟨vg, vo + k * 7 + 1, none⟩ = some (.int .i64 f.tok.num) ∧ w'.cell? ⟨vg, vo + k * 7 + 2, none⟩ = some (.string f.tok.text) ∧ w'.cell? ⟨vg, vo + k * 7 + 3, none⟩ = some (.int .i64 f.tok.at_) ∧ w'.cell? ⟨vg, vo + k * 7 + 4, none⟩ = some (.int .i64 f.tok.mark) ∧ w'.cell? ⟨vg, vo + k * 7 + 5, none⟩ = some (.string f.op) ∧ w'.cell? ⟨vg, vo + k * 7 + 6, none⟩ = some (.slice ka f.kids.length kc)) (first | exact ⟨x0, x1, x2, x3, x4, x5, x6⟩ | exact ⟨v0, v1, v2, v3, v4, v5, v6⟩ | exact ⟨u0, u1, u2, u3, u4, u5, u6⟩ | exact ⟨p0, p1, p2, p3, p4, p5, p6⟩ | go_keep)
            (first
              | ((refine step_append_lies _ (by rfl) (.tmp 32) (.tmp 38) 22 (by rfl) base 50 i0 _ 5 48 Tryz.underlying22 hi0 hz0 hz1 hz2 rfl (by omega) (.slice a11 n11 c11) M _ (by rfl) HO3A.out ⟨w12.heap.size, 0, none⟩ 1 1 [.int .i64 ct.kind, .int .i64 ct.num, .string ct.text, .int .i64 ct.at_, .int .i64 ct.mark] (by rfl) (by rfl) (World.news_of_block (t := 50) (fr := (0, 0)) (heap_alloc_new w12 _)) (by simp [Value.oneCell']) (by omega) (by unfold maxLen; omega) (by omega) (by simp only [World.size_alloc]; omega) (w12.heap.size + 1) (World.size_alloc _ _) ?_; intro g3 cap3 w13 hown3 hgrow3 hat3 hgl3; have HO4 := Lib.hid (own_tok HM.out hown3); have G4 := Lib.hid (G3.out.trans (growA (m := M + 1) (cap := cap3) ((Below.refl w12.heap.size w12).alloc (Nat.le_refl _) _) hgrow3 hat3 (by omega))); obtain ⟨x0, x1, x2, x3, x4, x5, x6⟩ := cells7 (G4.out.low HO1.out hs hv10) p0 p1 p2 p3 p4 p5 p6; clear hown3 hgrow3 hat3 hgl3))
              | ((refine step_append_lies _ (by rfl) (.tmp 32) (.tmp 38) 22 (by rfl) base 50 i0 _ 5 48 Tryz.underlying22 hi0 hz0 hz1 hz2 rfl (by omega) (.slice a11 n11 c11) M _ (by rfl) HO2.out ⟨w12.heap.size, 0, none⟩ 1 1 [.int .i64 ct.kind, .int .i64 ct.num, .string ct.text, .int .i64 ct.at_, .int .i64 ct.mark] (by rfl) (by rfl) (World.news_of_block (t := 50) (fr := (0, 0)) NB2.out) (by simp [Value.oneCell']) (by omega) (by unfold maxLen; omega) (by omega) (by omega) (w11.heap.size) (rfl) ?_; intro g3 cap3 w13 hown3 hgrow3 hat3 hgl3; have HO4 := Lib.hid (own_tok HM.out hown3); have G4 := Lib.hid (G2.out.trans (growA (m := M + 1) (cap := cap3) (Below.refl w11.heap.size w11) hgrow3 hat3 (by omega))); obtain ⟨x0, x1, x2, x3, x4, x5, x6⟩ := cells7 (G4.out.low HO1.out hs hv10) p0 p1 p2 p3 p4 p5 p6; clear hown3 hgrow3 hat3 hgl3))
              | ((refine step_append_lies _ (by rfl) (.tmp 32) (.tmp 38) 22 (by rfl) base 50 i0 _ 5 48 Tryz.underlying22 hi0 hz0 hz1 hz2 rfl (by omega) (.slice a11 n11 c11) M _ (by rfl) HO2A.out ⟨w11.heap.size, 0, none⟩ 1 1 [.int .i64 ct.kind, .int .i64 ct.num, .string ct.text, .int .i64 ct.at_, .int .i64 ct.mark] (by rfl) (by rfl) (World.news_of_block (t := 50) (fr := (0, 0)) (heap_alloc_new w11 _)) (by simp [Value.oneCell']) (by omega) (by unfold maxLen; omega) (by omega) (by simp only [World.size_alloc]; omega) (w11.heap.size + 1) (World.size_alloc _ _) ?_; intro g3 cap3 w13 hown3 hgrow3 hat3 hgl3; have HO4 := Lib.hid (own_tok HM.out hown3); have G4 := Lib.hid (G2.out.trans (growA (m := M + 1) (cap := cap3) ((Below.refl w11.heap.size w11).alloc (Nat.le_refl _) _) hgrow3 hat3 (by omega))); obtain ⟨x0, x1, x2, x3, x4, x5, x6⟩ := cells7 (G4.out.low HO1.out hs hv10) p0 p1 p2 p3 p4 p5 p6; clear hown3 hgrow3 hat3 hgl3))
              | (go_at_call 60; refine (HCALL.out _ B89A.out).mono ?_; rintro e w11 ⟨a11, n11, c11, rfl, hown2, hgr2⟩; obtain ⟨M, hM⟩ : ∃ M, (xs ++ toksU (l.take k) ++ [f.tok] ++ toksU f.kids).length = M := ⟨_, rfl⟩; rw [hM] at hown2; have HM := Lib.hid hM; have hMb : M + 1 ≤ 20000 := (by rw [List.length_append, List.length_append, HN.out] at hM; simp only [List.length_cons, List.length_nil] at hM; omega); have HO2 := Lib.hid hown2; have HO2A := Lib.hid (owns_bl' hown2 ((Below.refl w11.heap.size w11).alloc (Nat.le_refl _) (.cells #[.int .i64 ct.kind, .int .i64 ct.num, .string ct.text, .int .i64 ct.at_, .int .i64 ct.mark] 50))); have G2 := Lib.hid ((GrowV.bl (.slice (some ⟨g1, 0, none⟩) (N + 1) cap1) B89A.out).trans hgr2); have hs11 := G2.out.1.size; obtain ⟨u0, u1, u2, u3, u4, u5, u6⟩ := cells7 (G2.out.low HO1.out hs hv10) p0 p1 p2 p3 p4 p5 p6; have NB2 := Lib.hid ((hgr2.1.block w12.heap.size (by rw [World.size_alloc]; omega) (fun e9 => by have e8 : w12.heap.size = g1 := by simpa [Value.ownBlock] using e9; have e7 := own_lt HO1.out (g := g1) rfl; have e6 := B89.out.size; omega)).trans (heap_alloc_new w12 (.cells #[.int .i64 ct.kind, .int .i64 ct.num, .string ct.text, .int .i64 ct.at_, .int .i64 ct.mark] 50))); clear hM hown2 hgr2)
              | (go_at_call 60; refine (HCALL.out _ B89.out).mono ?_; rintro e w11 ⟨a11, n11, c11, rfl, hown2, hgr2⟩; obtain ⟨M, hM⟩ : ∃ M, (xs ++ toksU (l.take k) ++ [f.tok] ++ toksU f.kids).length = M := ⟨_, rfl⟩; rw [hM] at hown2; have HM := Lib.hid hM; have hMb : M + 1 ≤ 20000 := (by rw [List.length_append, List.length_append, HN.out] at hM; simp only [List.length_cons, List.length_nil] at hM; omega); have HO2 := Lib.hid hown2; have HO2A := Lib.hid (owns_bl' hown2 ((Below.refl w11.heap.size w11).alloc (Nat.le_refl _) (.cells #[.int .i64 ct.kind, .int .i64 ct.num, .string ct.text, .int .i64 ct.at_, .int .i64 ct.mark] 50))); have G2 := Lib.hid ((GrowV.bl (.slice (some ⟨g1, 0, none⟩) (N + 1) cap1) B89.out).trans hgr2); have hs11 := G2.out.1.size; obtain ⟨u0, u1, u2, u3, u4, u5, u6⟩ := cells7 (G2.out.low HO1.out hs hv10) p0 p1 p2 p3 p4 p5 p6; clear hM hown2 hgr2)
              | (go_at_call 60; refine (HCALL.out _ BD.out).mono ?_; rintro e w11 ⟨a11, n11, c11, rfl, hown2, hgr2⟩; obtain ⟨M, hM⟩ : ∃ M, (xs ++ toksU (l.take k) ++ [f.tok] ++ toksU f.kids).length = M := ⟨_, rfl⟩; rw [hM] at hown2; have HM := Lib.hid hM; have hMb : M + 1 ≤ 20000 := (by rw [List.length_append, List.length_append, HN.out] at hM; simp only [List.length_cons, List.length_nil] at hM; omega); have HO2 := Lib.hid hown2; have HO2A := Lib.hid (owns_bl' hown2 ((Below.refl w11.heap.size w11).alloc (Nat.le_refl _) (.cells #[.int .i64 ct.kind, .int .i64 ct.num, .string ct.text, .int .i64 ct.at_, .int .i64 ct.mark] 50))); have G2 := Lib.hid ((GrowV.bl (.slice (some ⟨g1, 0, none⟩) (N + 1) cap1) BD.out).trans hgr2); have hs11 := G2.out.1.size; obtain ⟨u0, u1, u2, u3, u4, u5, u6⟩ := cells7 (G2.out.low HO1.out hs hv10) p0 p1 p2 p3 p4 p5 p6; clear hM hown2 hgr2)
              | (go_at_call 89; refine (rClosing_any f.tok f.op ka f.kids.length kc _).mono ?_; rintro e w12 ⟨rfl, hb12⟩; rw [HCT.out]; unfold TokV tokC; have HO3 := Lib.hid (owns_bl' HO2.out hb12); have HO3A := Lib.hid (owns_bl' HO3.out ((Below.refl w12.heap.size w12).alloc (Nat.le_refl _) (.cells #[.int .i64 ct.kind, .int .i64 ct.num, .string ct.text, .int .i64 ct.at_, .int .i64 ct.mark] 50))); have G3 := Lib.hid (G2.out.trans (GrowV.bl _ hb12)); have hs12 := hb12.size; obtain ⟨v0, v1, v2, v3, v4, v5, v6⟩ := cells7 (hb12.block vg (by omega)) u0 u1 u2 u3 u4 u5 u6; clear hb12)
              | (go_at_call 89; refine (rClosing_any f.tok f.op ka f.kids.length kc _).mono ?_; rintro e w12 ⟨rfl, hb12⟩; rw [HCT.out]; unfold TokV tokC; have B89 := Lib.hid (BD.out.trans (hb12.mono BD.out.size)); have B89A := Lib.hid ((B89.out).alloc B89.out.size (.cells #[.int .i64 ct.kind, .int .i64 ct.num, .string ct.text, .int .i64 ct.at_, .int .i64 ct.mark] 50)); obtain ⟨v0, v1, v2, v3, v4, v5, v6⟩ := cells7 (B89.out.block vg hv10) p0 p1 p2 p3 p4 p5 p6; have hs12 := B89.out.size; clear hb12))
          all_goals
            have HOF : Hid (w13.ownsRow base 50 5 (.slice (some ⟨g3, 0, none⟩) (M + 1) cap3) (xs ++ toksU (l.take (k + 1))).length (toksC (xs ++ toksU (l.take (k + 1))))) := Lib.hid (by
              have h9 := HO4.out
              have e9 : xs ++ toksU (l.take (k + 1)) = xs ++ toksU (l.take k) ++ [f.tok] ++ toksU f.kids ++ [ct] := by rw [HTK.out, HPF.out]; simp
              rw [e9]; exact h9)
            have HGF := Lib.hid (HG1.out.trans G4.out)
            go_wp2_with fail
            go_roundw
            case rel => exact ⟨k + 1, by omega, by go_num, ⟨_, _, _, rfl⟩, HOF, HGF⟩
            case measure => simp [intOf]; omega
        · have e2 : (f.op.toList != []) = false := by rw [bne, e1]; rfl
          have hop : f.op.toList = [] := by simpa using e1
          go_wp2_with (at_builtin; go_must (refine wpList_append_lies _ rfl (.tmp 12) (.tmp 18) 22 rfl base 50 i0 _ 5 48 Tryz.underlying22 hi0 hz0 hz1 hz2 rfl (by omega) (.slice ya yn yc) N _ (by rfl) HOA.out ⟨wr.heap.size, 0, none⟩ 1 1 [.int .i64 f.tok.kind, .int .i64 f.tok.num, .string f.tok.text, .int .i64 f.tok.at_, .int .i64 f.tok.mark] (by rfl) (by rfl) (World.news_of_block (t := 50) (fr := (0, 0)) (heap_alloc_new wr _)) (by simp [Value.oneCell']) (by omega) (by unfold maxLen; omega) (by omega) (by simp only [World.size_alloc]; omega) (wr.heap.size + 1) (by simp only [World.size_alloc]) ?_); intro g1 cap1 w10 hown1 hgrow1 hat1 hgl1; have hG1 := growA (m := N + 1) (cap := cap1) ((Below.refl _ wr).alloc (Nat.le_refl _) (.cells #[.int .i64 f.tok.kind, .int .i64 f.tok.num, .string f.tok.text, .int .i64 f.tok.at_, .int .i64 f.tok.mark] 50)) hgrow1 hat1 (Nat.le_succ _); obtain ⟨p0, p1, p2, p3, p4, p5, p6⟩ := cells7 (hG1.low HW.out hs hvl) m0 m1 m2 m3 m4 m5 m6; have HO1 := Lib.hid (own_tok HN.out hown1); have HKR1 := Lib.hid (HKR.out.keep (W' := w10) (S' := fun b => b < base) fun b hb hlt => ⟨hG1.low HW.out hb hlt, hb⟩); have hs10 := hG1.1.size; have HG1 := Lib.hid (HG.out.trans hG1); clear m0 m1 m2 m3 m4 m5 m6 hown1 hgrow1 hat1 hgl1 hG1)
          have HOF := Lib.hid (show w10.ownsRow base 50 5 (.slice (some ⟨g1, 0, none⟩) (N + 1) cap1) (xs ++ toksU (l.take (k + 1))).length (toksC (xs ++ toksU (l.take (k + 1)))) from (by
            have h9 := HO1.out
            have e9 : xs ++ toksU (l.take (k + 1)) = xs ++ toksU (l.take k) ++ [f.tok] := by rw [HTK.out, show tokFU f = [f.tok] by unfold tokFU; rw [if_pos hop], List.append_assoc]
            rw [e9, show (xs ++ toksU (l.take k) ++ [f.tok]).length = N + 1 by rw [List.length_append, HN.out]; rfl]
            rw [show (xs ++ toksU (l.take k) ++ [f.tok]).length = N + 1 by rw [List.length_append, HN.out]; rfl] at h9
            exact h9))
          go_roundw
          case rel => exact ⟨k + 1, by omega, by go_num, ⟨_, _, _, rfl⟩, HOF, HG1⟩
          case measure => simp [intOf]; omega
      · obtain rfl : k = l.length := by omega
        have hown := HW.out
        rw [← HN.out, List.take_length] at hown
        have HOW := Lib.hid hown
        clear hown
        go_wp2_with fail
        go_ret
        exact ⟨_, _, _, rfl, HOW.out, HG.out⟩
end Go.Proofs.YtopbmndjnjnmcaaGreatDoor
namespace Go.Proofs.YtopbmndjnjnmcaaGreatDoor
open Go.RowKit Lx
/- (V6) -/
attribute [local go_sem] Oper.semAt_some
set_option maxRecDepth 100000 in
set_option maxHeartbeats 4000000 in
/-- **Equal** of the same tokens -/
theorem rTokEq_any (va vb : Value) (ts : List Tok) (w : World) (ha : TokRead w va ts) (hb : TokRead w vb ts) :
    Calls Tryz.prog 27 #[va, vb] w fun e W => e = .returned (.bool true) ∧ Below w.heap.size w W := by
  obtain ⟨aa, ca, rfl, ⟨hma, hca⟩, hra⟩ := ha
  obtain ⟨ab, cb, rfl, ⟨hmb, hcb⟩, hrb⟩ := hb
  have HA := Lib.hid hra
  have HB := Lib.hid hrb
  clear hra hrb
  unfold maxLen at hma
  obtain ⟨n, hn⟩ : ∃ n, ts.length = n := ⟨_, rfl⟩
  rw [hn] at hma hca hcb ⊢
  have HN := Lib.hid hn
  clear hn hmb
  have d0 : ((n : Int) == (n : Int)) = true := by simp
  go_enter Tryz.func27, Tryz.ntmps27
  go_wp2_with fail
  go_loopw [5, 6] (fun x y wr => ∃ k : Nat, k ≤ n ∧ x = .bool true ∧ y = .int .i64 k ∧ Hid (Below w.heap.size w wr)) (fun _ y _ => n - (intOf y).toNat)
  case atStart => exact ⟨0, by omega, by first | rfl | simp, rfl, Lib.hid (Below.refl _ _)⟩
  case round =>
    obtain ⟨k, hk, rfl, rfl, HBW⟩ := hrel
    by_cases hlt : k < n
    · obtain ⟨t, ht⟩ : ∃ t, ts[k]? = some t := ⟨_, List.getElem?_eq_getElem (by have := HN.out; omega)⟩
      obtain ⟨ga, oa, rfl, hga, a0, a1, a2, a3, a4⟩ := HA.out k t ht
      obtain ⟨gb, ob, rfl, hgb, b0, b1, b2, b3, b4⟩ := HB.out k t ht
      have x0 := (HBW.out.cell (p := ⟨ga, oa + k * 5, none⟩) hga).trans a0
      have x1 := (HBW.out.cell (p := ⟨ga, oa + k * 5 + 1, none⟩) hga).trans a1
      have x2 := (HBW.out.cell (p := ⟨ga, oa + k * 5 + 2, none⟩) hga).trans a2
      have x3 := (HBW.out.cell (p := ⟨ga, oa + k * 5 + 3, none⟩) hga).trans a3
      have x4 := (HBW.out.cell (p := ⟨ga, oa + k * 5 + 4, none⟩) hga).trans a4
      have y0 := (HBW.out.cell (p := ⟨gb, ob + k * 5, none⟩) hgb).trans b0
      have y1 := (HBW.out.cell (p := ⟨gb, ob + k * 5 + 1, none⟩) hgb).trans b1
      have y2 := (HBW.out.cell (p := ⟨gb, ob + k * 5 + 2, none⟩) hgb).trans b2
      have y3 := (HBW.out.cell (p := ⟨gb, ob + k * 5 + 3, none⟩) hgb).trans b3
      have y4 := (HBW.out.cell (p := ⟨gb, ob + k * 5 + 4, none⟩) hgb).trans b4
      have k1 : (k : Int) < (n : Int) := by omega
      clear a0 a1 a2 a3 a4 b0 b1 b2 b3 b4 ht
      go_wp2_with fail
      go_quiet (fail)
      go_wp2_with fail
      go_roundw
      case rel => exact ⟨k + 1, by omega, by first | rfl | simp, by go_num, Lib.hid (below_drewN HBW.out _)⟩
      case measure => simp [intOf]; omega
    · obtain rfl : k = n := by omega
      go_wp2_with fail
      go_ret
      exact ⟨rfl, HBW.out⟩
theorem flatP_U {l : List Fr} (h1 : depthP l ≤ 100) (h2 : sizeP l ≤ 6000) : flatP l = toksU l ∧ (toksU l).length ≤ 6000 := by
  have hf : fitsP l = true := by unfold fitsP; simp [h1, h2]
  have hd : dep l ≤ 100 := by rw [depthP_dep] at h1; omega
  have hu : toksP 1 l = toksU l := toksU_P (fsz l + 1) l 1 (Nat.lt_succ_self _) (by omega)
  refine ⟨by unfold flatP; rw [if_pos hf, hu], ?_⟩
  rw [← hu]; exact sizeP_le hf
set_option maxRecDepth 100000 in
set_option maxHeartbeats 4000000 in
/-- **Flat** of the reference -/
theorem refFlat_any (S : Nat → Prop) (l : List Fr) (v : Value) (w : World) (hr : FrRead w S v l) :
    Calls Tryz.prog 29 #[v] w fun e W => ∃ a n c, e = .returned (.slice a n c) ∧ TokRead W (.slice a n c) (flatP l) ∧ Below w.heap.size w W := by
  have HR := Lib.hid hr
  obtain ⟨va, vc, _, _, rfl, _⟩ := hr
  have HD := Lib.hid (refDepth_any S l _ w HR.out)
  go_enter Tryz.func29, Tryz.ntmps29
  go_wp2_with fail
  go_at_call 24
  refine HD.out.mono ?_
  rintro e W1 ⟨rfl, hb1⟩
  have HB1 := Lib.hid hb1
  have HR1 := Lib.hid (HR.out.bl hb1)
  have hdp : depthP l ≤ 101 := by rw [depthP_dep]; omega
  clear hb1 HD
  by_cases h1 : depthP l ≤ 100
  case neg =>
    have k1 : (100 : Int) < (depthP l : Int) := by omega
    have hfl : flatP l = [] := by unfold flatP fitsP; simp [h1]
    have HFL := Lib.hid hfl
    clear hfl
    go_wp2_with fail
    go_ret
    exact ⟨_, _, _, rfl, by rw [HFL.out]; exact ⟨none, 0, rfl, ⟨Nat.zero_le _, Nat.le_refl _⟩, fun k t hk => by simp at hk⟩, HB1.out⟩
  case pos =>
  have k1 : ¬ (100 : Int) < (depthP l : Int) := by omega
  have HZ := Lib.hid (refSize_any S l _ W1 HR1.out)
  go_wp2_with fail
  go_at_call 22
  refine HZ.out.mono ?_
  rintro e W2 ⟨rfl, hb2⟩
  have HB2 := Lib.hid (HB1.out.trans (hb2.mono HB1.out.size))
  have HR2 := Lib.hid (HR1.out.bl hb2)
  have hsp : sizeP l ≤ 6001 := by unfold sizeP; omega
  clear hb2 HZ
  by_cases h2 : sizeP l ≤ 6000
  case neg =>
    have k2 : (6000 : Int) < (sizeP l : Int) := by omega
    have hfl : flatP l = [] := by unfold flatP fitsP; simp [h2]
    have HFL := Lib.hid hfl
    clear hfl
    go_wp2_with fail
    go_ret
    exact ⟨_, _, _, rfl, by rw [HFL.out]; exact ⟨none, 0, rfl, ⟨Nat.zero_le _, Nat.le_refl _⟩, fun k t hk => by simp at hk⟩, HB2.out⟩
  case pos =>
  have k2 : ¬ (6000 : Int) < (sizeP l : Int) := by omega
  obtain ⟨hfl, hul⟩ := flatP_U h1 h2
  have HFL := Lib.hid hfl
  have HF := Lib.hid (rflat_any W2.heap.size (fsz l + 1) l [] none 0 0 _ W2 (Nat.lt_succ_self _) (by simp only [List.length_nil]; omega) (Nat.le_refl _) (HR2.out.keep fun b _ hlt => ⟨rfl, hlt⟩) (World.ownsRow_nil _ _ _ _))
  clear hfl
  go_wp2_with fail
  go_at_call 60
  refine HF.out.mono ?_
  rintro e W3 ⟨a3, n3, c3, rfl, hown, hgr⟩
  rw [List.nil_append] at hown
  have hnn : n3 = (toksU l).length := by obtain ⟨q1, q2, hq⟩ := own_form hown; cases hq; rfl
  have HT : Hid (TokRead W3 (.slice a3 n3 c3) (toksU l)) := Lib.hid (tok_owns hown rfl (by unfold maxLen; omega))
  have HB3 := Lib.hid (HB2.out.trans ((hgr.below (World.ownsRow_nil W2 W2.heap.size 50 5) (Nat.le_refl _)).mono HB2.out.size))
  clear hown hgr HF hnn
  go_wp2_with fail
  go_ret
  exact ⟨_, _, _, rfl, by rw [HFL.out]; exact HT.out, HB3.out⟩
end Go.Proofs.YtopbmndjnjnmcaaGreatDoor
namespace Go.Proofs.YtopbmndjnjnmcaaGreatDoor
open Go.RowKit Lx
/- (N18) -/
attribute [local go_sem] Oper.semAt_some

theorem info9 : (Tryz.prog.info? 9).map (fun i => (i.zero, i.size, i.bytes)) = some (some (.string ⟨#[]⟩), 1, 16) := by kernel_rfl
theorem info5 : (Tryz.prog.info? 5).map (fun i => (i.zero, i.size, i.bytes)) = some (some (.int .u8 0), 1, 1) := by kernel_rfl

def texts (ts : List Tok) : List Bs := ts.map fun t => t.text.data.toList
/-- The tokens, joined. -/
def joinS (ts : List Tok) : Bs := if ts.all tokOk = true then Lib.join (texts ts) [32] else []
theorem texts_len (ts : List Tok) : (texts ts).length = ts.length := by unfold texts; simp
theorem texts_at {ts : List Tok} {k : Nat} {t : Tok} (h : ts[k]? = some t) : (texts ts)[k]? = some t.text.data.toList := by unfold texts; simp [h]
theorem join_step (xs : List Bs) (k : Nat) (y : Bs) (h : xs[k]? = some y) : Lib.join (xs.take (k + 1)) [32] = (if k = 0 then [] else Lib.join (xs.take k) [32] ++ [32]) ++ y := by
  match xs, k, h with
  | x :: r, 0, h =>
    simp at h; subst h
    simp [Lib.join_one]
  | x :: r, k + 1, h =>
    rw [if_neg (by omega), List.take_succ_cons, Lib.join_cons, List.take_succ_cons, Lib.join_cons, Lib.joinTail_take_succ [32] r k y (by simpa using h)]
    simp
theorem join_len (xs : List Bs) (h : ∀ x ∈ xs, x.length ≤ 40) : ∀ k, k ≤ xs.length → (Lib.join (xs.take k) [32]).length ≤ k * 41
  | 0, _ => by simp [Lib.join_nil]
  | k + 1, hk => by
    have ih := join_len xs h k (by omega)
    have hx : xs[k]? = some xs[k] := List.getElem?_eq_getElem (by omega)
    rw [join_step xs k _ hx, List.length_append]
    have := h xs[k] (List.getElem_mem _)
    split
    · simp only [List.length_nil]; omega
    · simp only [List.length_append, List.length_singleton]; omega
theorem tok_text {t : Tok} (h : tokOk t = true) : t.text.data.toList.length ≤ 40 ∧ 1 ≤ t.text.data.toList.length := by
  have h0 : qKind t.text.data.toList ≠ 0 := by
    unfold tokOk at h
    simp only [Bool.and_eq_true, Bool.not_eq_true', beq_eq_false_iff_ne] at h
    have := h.1.1.1.1
    intro e; apply this; rw [e]; rfl
  refine ⟨kind_len h0, ?_⟩
  rcases Nat.eq_zero_or_pos t.text.data.toList.length with h1 | h1
  · exact absurd (kind_none h1) h0
  · exact h1

/-- What Join of the program holds. -/
structure JoI (w : World) (ts : List Tok) (k : Nat) (v : Value) (W : World) : Prop where
  own : W.ownsRow w.heap.size 9 1 v k ((ts.take k).map fun t => .string t.text)
  bel : Below w.heap.size w W
theorem JoI.bl {w W W' : World} {ts : List Tok} {k : Nat} {v : Value} (h : JoI w ts k v W) (hb : Below W.heap.size W W') : JoI w ts k v W' :=
  ⟨owns_bl' h.own hb, h.bel.trans (hb.mono h.bel.size)⟩
theorem JoI.more {w W W2 W' : World} {ts : List Tok} {k : Nat} {v v' : Value} {t : Tok} (h : JoI w ts k v W) (ht : ts[k]? = some t) (hb : Below W.heap.size W W2)
    (hown : W'.ownsRow w.heap.size 9 1 v' (k + 1) (((ts.take k).map fun t => .string t.text) ++ [.string t.text])) (hg : W2.grownBy W' v.ownBlock) : JoI w ts (k + 1) v' W' := by
  refine ⟨?_, below_grown (h.bel.trans (hb.mono h.bel.size)) (Nat.le_refl _) hg (fun j e => (h.own.lt j e).1)⟩
  rw [List.take_add_one, ht, List.map_append]
  simpa using hown

set_option maxRecDepth 100000 in
set_option maxHeartbeats 8000000 in
/-- **Join** -/
theorem join_tok (v : Value) (ts : List Tok) (hts : ∀ t ∈ ts, t.text.size ≤ maxLen) (hn41 : ts.length * 41 ≤ 140737488355328) (w : World) (he : Env w) (ha : TokRead w v ts) :
    Calls Tryz.prog 56 #[v] w fun e W => e = .returned (.string ⟨(joinS ts).toArray⟩) ∧ Below w.heap.size w W := by
  obtain ⟨i0, hi0, hz0, hz1, hz2⟩ := info_parts info9
  obtain ⟨aa, ca, rfl, hma, hra⟩ := ha
  have HA := Lib.hid hra
  have HE := Lib.hid he
  have HTS := Lib.hid hts
  clear hra he hts
  unfold maxLen at hma
  obtain ⟨n, hn⟩ : ∃ n, ts.length = n := ⟨_, rfl⟩
  rw [hn] at hma hn41 ⊢
  obtain ⟨J, hJ⟩ : ∃ J, joinS ts = J := ⟨_, rfl⟩
  rw [hJ]
  have HJ := Lib.hid hJ
  have HN := Lib.hid hn
  clear hJ hn
  go_enter Tryz.func56, Tryz.ntmps56
  go_wp2_with fail
  go_loopw [3, 5, 8] (fun v _ x wr => ∃ k : Nat, k ≤ n ∧ x = .int .i64 k ∧ (∃ a m c, v = .slice a m c) ∧ Hid (JoI w ts k v wr) ∧ Hid (∀ t ∈ ts.take k, tokOk t = true)) (fun _ _ x _ => n - (intOf x).toNat)
  case atStart => exact ⟨0, by omega, rfl, ⟨_, _, _, rfl⟩, Lib.hid ⟨World.ownsRow_nil _ _ _ _, Below.refl _ _⟩, Lib.hid (by simp)⟩
  case round =>
    obtain ⟨k, hk, rfl, ⟨va, vn, vc, rfl⟩, HI, HT⟩ := hrel
    by_cases hlt : k < n
    · obtain ⟨p, hp⟩ : ∃ p, ts[k]? = some p := ⟨_, List.getElem?_eq_getElem (by have := HN.out; omega)⟩
      have hbw := HI.out.bel
      obtain ⟨ga, oa, rfl, hga, a0, a1, a2, a3, a4⟩ := HA.out k p hp
      have HCK := Lib.hid (fun W (hE : Env W) => check_tok p (HTS.out p (List.mem_of_getElem? hp)) W hE)
      have HP := Lib.hid hp
      obtain ⟨pk, pn, px, pa, pm⟩ := p
      unfold TokV tokC at HCK
      simp only at *
      have a0 := (hbw.cell (p := ⟨ga, _, none⟩) hga).trans a0
      have a1 := (hbw.cell (p := ⟨ga, _, none⟩) hga).trans a1
      have a2 := (hbw.cell (p := ⟨ga, _, none⟩) hga).trans a2
      have a3 := (hbw.cell (p := ⟨ga, _, none⟩) hga).trans a3
      have a4 := (hbw.cell (p := ⟨ga, _, none⟩) hga).trans a4
      have hk0 : (0 : Int) ≤ (k : Int) := by omega
      have hk1 : (k : Int) < (n : Int) := by omega
      have hd : decide (k < n) = true := by simpa using hlt
      have hd2 : decide ((k : Int) < (n : Int)) = true := decide_eq_true hk1
      have ht := Lib.hid (heap_alloc_new wr (.cells #[.int .i64 pk, .int .i64 pn, .string px, .int .i64 pa, .int .i64 pm] 50))
      have hal := (Below.refl wr.heap.size wr).alloc (Nat.le_refl _) (.cells #[.int .i64 pk, .int .i64 pn, .string px, .int .i64 pa, .int .i64 pm] 50)
      have HAL := Lib.hid hal
      clear hp hga hbw hal
      go_wp2_with fail
      refine (HCK.out _ (HE.out.any rfl (HI.out.bel.trans (HAL.out.mono HI.out.bel.size)))).mono ?_
      rintro e w2 ⟨rfl, hb2⟩
      cases hok : tokOk ⟨pk, pn, px, pa, pm⟩
      · rw [tokEr_no hok]
        have hJ : J = [] := by
          rw [← HJ.out]; unfold joinS; rw [if_neg]
          intro h
          have := (List.all_eq_true.1 h) _ (List.mem_of_getElem? HP.out)
          rw [hok] at this; cases this
        subst hJ
        have HB := Lib.hid ((HI.out.bel.trans (HAL.out.mono HI.out.bel.size)).trans (hb2.mono (Nat.le_trans HI.out.bel.size HAL.out.size)))
        clear hb2 a0 a1 a2 a3 a4
        go_wp2_with fail
        go_ret
        exact ⟨rfl, HB.out⟩
      · rw [tokEr_ok hok]
        have hT2 := (hb2.block _ (Array.getElem?_eq_some_iff.1 ht.out).1).trans ht.out
        have m2 : w2.cell? ⟨wr.heap.size, 2, none⟩ = some (.string px) := by rw [cell_of_row _ _ _ _ _ _ hT2]; rfl
        have hI2 := (HI.out.bl HAL.out).bl hb2
        have HI2 := Lib.hid hI2
        have hszw : w.heap.size ≤ w2.heap.size := hI2.bel.size
        have HT2 := Lib.hid (show ∀ t ∈ ts.take (k + 1), tokOk t = true from by
          rw [List.take_add_one, HP.out]
          intro t htm
          rw [List.mem_append] at htm
          rcases htm with h | h
          · exact HT.out t h
          · simp at h; rw [h]; exact hok)
        clear hT2 hI2 hb2 a0 a1 a2 a3 a4
        go_wp2_with (at_builtin; refine wpList_append_lies _ rfl (.tmp 15) (.tmp 18) 23 rfl w.heap.size 9 i0 _ 1 16 Tryz.underlying23 hi0 hz0 hz1 hz2 rfl (by omega) (.slice va vn vc) _ _ (by rfl) (HI2.out.own.alloc _) ⟨w2.heap.size, 0, none⟩ 1 1 [.string px] (by rfl) (by rfl) (World.news_of_block (cs := #[.string px]) (t := 9) (fr := (0, 0)) (heap_alloc_new w2 _)) (by simp [Value.oneCell']) (by omega) (by unfold maxLen; omega) (by omega) (by rw [World.size_alloc]; omega) (w2.heap.size + 1) (World.size_alloc _ _) ?_; intro gg cap w10 hown1 hgrow hat hgl)
        go_roundw
        case rel => exact ⟨k + 1, by omega, rfl, ⟨_, _, _, rfl⟩, Lib.hid (HI2.out.more HP.out ((Below.refl _ w2).alloc (Nat.le_refl _) _) hown1 hgrow), HT2⟩
        case measure => simp [intOf] <;> omega
    · have hd : decide (k < n) = false := by simpa using hlt
      have hd2 : decide ((k : Int) < (n : Int)) = false := decide_eq_false (by omega)
      have hkn : k = ts.length := by have := HN.out; omega
      have hall : ts.all tokOk = true := List.all_eq_true.2 (fun t ht => HT.out t (by rw [hkn, List.take_length]; exact ht))
      have hJ : J = Lib.join (texts ts) [32] := by rw [← HJ.out]; unfold joinS; rw [if_pos hall]
      have hown := HI.out.own
      rw [hkn, List.take_length] at hown
      have hlen : (Lib.join ((ts.map fun t => t.text).map (·.data.toList)) (⟨#[32]⟩ : ByteArray).data.toList).length ≤ 140737488355328 := by
        have h1 := join_len (texts ts) (fun x hx => by
          unfold texts at hx; rw [List.mem_map] at hx
          obtain ⟨t, ht, rfl⟩ := hx
          exact (tok_text (List.all_eq_true.1 hall t ht)).1) (texts ts).length (Nat.le_refl _)
        rw [List.take_length, texts_len] at h1
        have : (ts.map fun t => t.text).map (·.data.toList) = texts ts := by unfold texts; rw [List.map_map]; rfl
        rw [this]
        have := HN.out
        exact Nat.le_trans h1 (by omega)
      subst hJ
      have HB := Lib.hid HI.out.bel
      have hJJ : Lib.join ((ts.map fun t => t.text).map (·.data.toList)) (⟨#[32]⟩ : ByteArray).data.toList = Lib.join (texts ts) [32] := by
        unfold texts; rw [List.map_map]; rfl
      have HJJ := Lib.hid hJJ
      by_cases hz : n = 0
      · have hts0 : ts = [] := List.length_eq_zero_iff.1 (by have := HN.out; omega)
        have hvn : vn = 0 := by
          rcases hown.2 with ⟨h, _⟩ | ⟨g, cap, cur, h, _⟩
          · cases h; rfl
          · cases h; rw [hts0]; rfl
        subst hvn
        have hJ0 : Lib.join (texts ts) [32] = [] := by rw [hts0]; rfl
        have HJ0 := Lib.hid hJ0
        clear hlen hJJ hown hts0 hJ0 hkn hz
        go_wp2_with fail
        refine (Tryz.strings_Join_none va vc ⟨#[32]⟩ _).mono ?_
        rintro e w2 ⟨rfl, rfl⟩
        go_wp2_with fail
        go_ret
        exact ⟨by rw [HJ0.out]; rfl, HB.out⟩
      · have hform : ∃ g, va = some ⟨g, 0, none⟩ ∧ vn = ts.length ∧ g < wr.heap.size ∧ vn ≤ vc := by
          rcases hown.2 with ⟨_, h0⟩ | ⟨g, cap, cur, h, _, hgb, hcp, _⟩
          · have := HN.out; omega
          · cases h; exact ⟨g, rfl, rfl, (Array.getElem?_eq_some_iff.1 hgb).1, hcp⟩
        obtain ⟨g, rfl, hvn, hgl, hvc⟩ := hform
        have hlm : (ts.map fun t => t.text).length = vn := by rw [List.length_map, hvn]
        have hcells : ∀ (j : Nat) x, (ts.map fun t => t.text)[j]? = some x → wr.cell? ⟨g, 0 + j, none⟩ = some (.string x) := by
          intro j x hx
          rw [List.getElem?_map, Option.map_eq_some_iff] at hx
          obtain ⟨t, ht, rfl⟩ := hx
          have hjl := (List.getElem?_eq_some_iff.1 ht).1
          rw [← hvn] at hown
          rw [Nat.zero_add, hown.cellAt j (by rw [hvn]; omega), List.getElem?_map, ht]; rfl
        have hvn2 : vn ≤ 140737488355328 := by have := HN.out; omega
        have hJoin := Tryz.strings_Join g 0 vc (ts.map fun t => t.text) ⟨#[32]⟩ wr hcells hgl (by rw [hlm]; exact hvn2) (by rw [hlm]; exact hvc) hlen
        rw [hlm, HJJ.out] at hJoin
        have HJN := Lib.hid hJoin
        clear hlen hJJ hown hJoin hcells hlm hvn hkn
        go_wp2_with fail
        refine HJN.out.mono ?_
        rintro e w2 ⟨rfl, hb2⟩
        go_wp2_with fail
        go_ret
        exact ⟨rfl, HB.out.trans (hb2.mono HB.out.size)⟩

/- (N19) -/
attribute [local go_sem] Oper.semAt_some

def bCells (l : Bs) : List Value := l.map fun b => Value.int .u8 (b.toNat : Int)
theorem bCells_len (l : Bs) : (bCells l).length = l.length := by unfold bCells; simp
theorem bCells_app (a b : Bs) : bCells (a ++ b) = bCells a ++ bCells b := by unfold bCells; simp
theorem str_cells (s : ByteArray) : Lib.strCells s = bCells s.data.toList := rfl
/-- The tokens so far, joined. -/
def jl (ts : List Tok) (k : Nat) : Bs := Lib.join ((texts ts).take k) [32]
/-- What Join of the reference holds. -/
structure RJ (w : World) (ts : List Tok) (k : Nat) (v : Value) (W : World) : Prop where
  own : W.ownsRow w.heap.size 5 1 v (jl ts k).length (bCells (jl ts k))
  bel : Below w.heap.size w W
theorem RJ.bl {w W W' : World} {ts : List Tok} {k : Nat} {v : Value} (h : RJ w ts k v W) (hb : Below W.heap.size W W') : RJ w ts k v W' :=
  ⟨owns_bl' h.own hb, h.bel.trans (hb.mono h.bel.size)⟩
theorem conv_nil (w : World) (c : Nat) : (convert 115 9 (.slice none 0 c)).run Tryz.prog w = .ok (.string ⟨#[]⟩) w := by
  rw [run_convert_bytes_string w 115 9 5 none 0 c Tryz.underlying115 Tryz.underlying5 Tryz.underlying9]
  rfl

set_option maxRecDepth 100000 in
set_option maxHeartbeats 8000000 in
/-- **Join** of the reference -/
theorem refJoin_tok (v : Value) (ts : List Tok) (hts : ∀ t ∈ ts, t.text.size ≤ maxLen) (hn41 : ts.length * 41 ≤ 140737488355328) (w : World) (ha : TokRead w v ts) :
    Calls Tryz.prog 57 #[v] w fun e W => e = .returned (.string ⟨(joinS ts).toArray⟩) ∧ Below w.heap.size w W := by
  obtain ⟨i0, hi0, hz0, hz1, hz2⟩ := info_parts info5
  obtain ⟨aa, ca, rfl, hma, hra⟩ := ha
  have HA := Lib.hid hra
  have HTS := Lib.hid hts
  clear hra hts
  unfold maxLen at hma
  obtain ⟨n, hn⟩ : ∃ n, ts.length = n := ⟨_, rfl⟩
  rw [hn] at hma hn41 ⊢
  obtain ⟨J, hJ⟩ : ∃ J, joinS ts = J := ⟨_, rfl⟩
  rw [hJ]
  have HJ := Lib.hid hJ
  have HN := Lib.hid hn
  clear hJ hn
  go_enter Tryz.func57, Tryz.ntmps57
  go_wp2_with fail
  go_loopw [3, 4] (fun v x wr => ∃ k : Nat, k ≤ n ∧ x = .int .i64 k ∧ (∃ a m c, v = .slice a m c) ∧ Hid (RJ w ts k v wr) ∧ Hid (∀ t ∈ ts.take k, tokOk t = true)) (fun _ x _ => n - (intOf x).toNat)
  case atStart => exact ⟨0, by omega, rfl, ⟨_, _, _, rfl⟩, Lib.hid ⟨World.ownsRow_nil _ _ _ _, Below.refl _ _⟩, Lib.hid (by simp)⟩
  case round =>
    obtain ⟨k, hk, rfl, ⟨va, vn, vc, rfl⟩, HI, HT⟩ := hrel
    by_cases hlt : k < n
    · obtain ⟨p, hp⟩ : ∃ p, ts[k]? = some p := ⟨_, List.getElem?_eq_getElem (by have := HN.out; omega)⟩
      have hbw := HI.out.bel
      obtain ⟨ga, oa, rfl, hga, a0, a1, a2, a3, a4⟩ := HA.out k p hp
      have HCK := Lib.hid (fun W => refCheck_tok p (HTS.out p (List.mem_of_getElem? hp)) W)
      have HP := Lib.hid hp
      have A2 := Lib.hid a2
      have HGA := Lib.hid hga
      obtain ⟨pk, pn, px, pa, pm⟩ := p
      unfold TokV tokC at HCK
      simp only at *
      have a0 := (hbw.cell (p := ⟨ga, _, none⟩) hga).trans a0
      have a1 := (hbw.cell (p := ⟨ga, _, none⟩) hga).trans a1
      have a2 := (hbw.cell (p := ⟨ga, _, none⟩) hga).trans a2
      have a3 := (hbw.cell (p := ⟨ga, _, none⟩) hga).trans a3
      have a4 := (hbw.cell (p := ⟨ga, _, none⟩) hga).trans a4
      have hk0 : (0 : Int) ≤ (k : Int) := by omega
      have hk1 : (k : Int) < (n : Int) := by omega
      have hd : decide (k < n) = true := by simpa using hlt
      have hd2 : decide ((k : Int) < (n : Int)) = true := decide_eq_true hk1
      clear hp hga hbw
      go_wp2_with fail
      refine (HCK.out _).mono ?_
      rintro e w2 ⟨rfl, hb2⟩
      cases hok : tokOk ⟨pk, pn, px, pa, pm⟩
      · rw [tokEr_no hok]
        have hJ : J = [] := by
          rw [← HJ.out]; unfold joinS; rw [if_neg]
          intro h
          have := (List.all_eq_true.1 h) _ (List.mem_of_getElem? HP.out)
          rw [hok] at this; cases this
        subst hJ
        have HB := Lib.hid (HI.out.bel.trans (hb2.mono HI.out.bel.size))
        clear hb2 a0 a1 a2 a3 a4
        go_wp2_with fail
        go_ret
        exact ⟨rfl, HB.out⟩
      · rw [tokEr_ok hok]
        have hI2 := HI.out.bl hb2
        have HI2 := Lib.hid hI2
        have hszw : w.heap.size ≤ w2.heap.size := hI2.bel.size
        have HT2 := Lib.hid (show ∀ t ∈ ts.take (k + 1), tokOk t = true from by
          rw [List.take_add_one, HP.out]
          intro t htm
          rw [List.mem_append] at htm
          rcases htm with h | h
          · exact HT.out t h
          · simp at h; rw [h]; exact hok)
        have hstep : jl ts (k + 1) = (if k = 0 then [] else jl ts k ++ [32]) ++ px.data.toList := join_step (texts ts) k _ (texts_at HP.out)
        have hjl : (jl ts k).length ≤ k * 41 := by
          have h1 := join_len ((texts ts).take k) (fun x hx => by
            obtain ⟨i, hi⟩ := List.getElem?_of_mem hx
            have hik := (List.getElem?_eq_some_iff.1 hi).1
            rw [List.length_take, texts_len] at hik
            rw [List.getElem?_take, if_pos (by omega)] at hi
            unfold texts at hi
            rw [List.getElem?_map, Option.map_eq_some_iff] at hi
            obtain ⟨t, ht, rfl⟩ := hi
            exact (tok_text (HT.out t (List.mem_of_getElem? (i := i) (by rw [List.getElem?_take, if_pos (by omega)]; exact ht)))).1) k (by rw [List.length_take, texts_len]; have := HN.out; omega)
          rw [List.take_take, Nat.min_self] at h1
          exact h1
        have hpx := (tok_text hok).1
        simp only [Array.length_toList, ByteArray.size_data] at hpx
        have HST := Lib.hid hstep
        have hm2 : ∀ W, Below w2.heap.size w2 W → W.cell? ⟨ga, oa + k * 5 + 2, none⟩ = some (.string px) := fun W hb => ((hI2.bel.trans (hb.mono hI2.bel.size)).cell (p := ⟨ga, _, none⟩) HGA.out).trans A2.out
        have HM2 := Lib.hid hm2
        clear hb2 a0 a1 a2 a3 a4 hI2 hstep hm2
        by_cases hk00 : k = 0
        · have d0 : decide ((0 : Int) < (k : Int)) = false := decide_eq_false (by omega)
          have d0b : decide (0 < k) = false := decide_eq_false (by omega)
          have hj0 : jl ts k = [] := by rw [hk00]; rfl
          have m2 := HM2.out w2 (Below.refl _ _)
          have HST0 := Lib.hid (show jl ts (k + 1) = jl ts k ++ px.data.toList from by rw [HST.out, if_pos hk00, hj0])
          clear hk00 hj0
          go_wp2_with (at_builtin; refine Lib.wpList_append_own_string _ rfl (.tmp 22) (.tmp 27) 115 9 rfl w.heap.size 5 i0 Tryz.underlying115 Tryz.underlying9 hi0 hz0 hz1 hz2 (.slice va vn vc) _ _ (by rfl) HI2.out.own px (by rfl) (by unfold maxLen; omega) (by omega) hszw ?_; intro v' w' hown1 hgrow hnil; obtain ⟨a', m', c', rfl⟩ := ownsRow_slice hown1)
          go_roundw
          case rel => exact ⟨k + 1, by omega, rfl, ⟨_, _, _, rfl⟩, Lib.hid ⟨by rw [HST0.out, List.length_append, bCells_app]; simpa [str_cells] using hown1, below_grown HI2.out.bel (Nat.le_refl _) hgrow (fun j e => (HI2.out.own.lt j e).1)⟩, HT2⟩
          case measure => simp [intOf] <;> omega
        · have d0 : decide ((0 : Int) < (k : Int)) = true := decide_eq_true (by omega)
          have d0b : decide (0 < k) = true := decide_eq_true (by omega)
          have HST0 := Lib.hid (show jl ts (k + 1) = jl ts k ++ [32] ++ px.data.toList from by rw [HST.out, if_neg hk00])
          have hba := HI2.out.bel.alloc HI2.out.bel.size (.cells #[.int .u8 32] 5)
          have HBA := Lib.hid hba
          clear hk00 hba
          go_wp2_with (first
            | (at_builtin; refine wpList_append_lies _ rfl (.tmp 19) (.tmp 20) 115 rfl w.heap.size 5 i0 _ 1 1 Tryz.underlying115 hi0 hz0 hz1 hz2 rfl (by omega) (.slice va vn vc) _ _ (by rfl) (HI2.out.own.alloc _) ⟨w2.heap.size, 0, none⟩ 1 1 [.int .u8 32] (by rfl) (by rfl) (World.news_of_block (cs := #[.int .u8 32]) (t := 5) (fr := (0, 0)) (heap_alloc_new w2 _)) (by simp [Value.oneCell']) (by omega) (by unfold maxLen; omega) (by omega) (by rw [World.size_alloc]; omega) (w2.heap.size + 1) (World.size_alloc _ _) ?_; intro gg cap w10 hown1 hgrow hat hgl; have hb10 := below_grown HBA.out (Nat.le_refl _) hgrow (fun j e => (HI2.out.own.lt j e).1); have m3 : w10.cell? ⟨ga, oa + k * 5 + 2, none⟩ = some (.string px) := (hb10.cell (p := ⟨ga, _, none⟩) HGA.out).trans A2.out; have hs10 := hb10.size)
            | (at_builtin; refine Lib.wpList_append_own_string _ rfl (.tmp 22) (.tmp 27) 115 9 rfl w.heap.size 5 i0 Tryz.underlying115 Tryz.underlying9 hi0 hz0 hz1 hz2 (.slice (some ⟨gg, 0, none⟩) ((jl ts k).length + 1) cap) _ _ (by rfl) hown1 px (by rfl) (by unfold maxLen; omega) (by omega) hs10 ?_; intro v' w' hown2 hgrow2 hnil; obtain ⟨a', m', c', rfl⟩ := ownsRow_slice hown2))
          go_roundw
          case rel => exact ⟨k + 1, by omega, rfl, ⟨_, _, _, rfl⟩, Lib.hid ⟨by rw [HST0.out, List.length_append, List.length_append, bCells_app, bCells_app]; simpa [str_cells, bCells] using hown2, below_grown hb10 (Nat.le_refl _) hgrow2 (fun j e => (hown1.lt j e).1)⟩, HT2⟩
          case measure => simp [intOf] <;> omega
    · have hd : decide (k < n) = false := by simpa using hlt
      have hd2 : decide ((k : Int) < (n : Int)) = false := decide_eq_false (by omega)
      have hkn : k = ts.length := by have := HN.out; omega
      have hall : ts.all tokOk = true := List.all_eq_true.2 (fun t ht => HT.out t (by rw [hkn, List.take_length]; exact ht))
      have hJ : J = jl ts k := by
        rw [← HJ.out]; unfold joinS jl; rw [if_pos hall, hkn, ← texts_len ts, List.take_length]
      subst hJ
      have hown := HI.out.own
      have HB := Lib.hid HI.out.bel
      have hcv : (convert 115 9 (.slice va vn vc)).run Tryz.prog wr = .ok (.string ⟨(jl ts k).toArray⟩) wr := by
        rcases hown.2 with ⟨h, h0⟩ | ⟨g, cap, cur, h, _, _, _⟩
        · cases h
          rw [List.length_eq_zero_iff.1 h0]; exact conv_nil wr 0
        · cases h
          refine run_convert_bytes_back wr 115 9 5 ⟨g, 0, none⟩ vc (jl ts k) Tryz.underlying115 Tryz.underlying5 Tryz.underlying9 (fun j hj => ?_)
          rw [show (⟨g, 0, none⟩ : Addr).add j = ⟨g, 0 + j, none⟩ from Go.WideShapes.add_plain _ _ _, Nat.zero_add, hown.cellAt j (by omega)]
          unfold bCells
          rw [List.getElem?_map, List.getElem?_eq_getElem hj]; rfl
      obtain ⟨s, hs⟩ : ∃ s : ByteArray, (⟨(jl ts k).toArray⟩ : ByteArray) = s := ⟨_, rfl⟩
      rw [hs] at hcv
      have HS := Lib.hid hs
      clear hown hs hkn hall
      go_wp2_with fail
      go_ret
      exact ⟨by rw [HS.out]; rfl, HB.out⟩
end Go.Proofs.YtopbmndjnjnmcaaGreatDoor
