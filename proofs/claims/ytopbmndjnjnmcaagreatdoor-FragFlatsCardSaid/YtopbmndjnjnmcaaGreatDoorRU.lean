/- Package fragment: the reference's opens and drop (skerryref02), and appends of words: for FragReads. -/
import Derived.Test.YtopbmndjnjnmcaaGreatDoorST
namespace Go.Proofs.YtopbmndjnjnmcaaGreatDoor
open Go.RowKit Lx
/- (U1) -/
attribute [local go_sem] Oper.semAt_some
theorem gset {w w' : World} {r : Nat} (h : w.grownBy w' (some r)) (j : Nat) (v : Value) : w.grownBy (w'.setCell ⟨r, j, none⟩ v) (some r) :=
  ⟨h.os, h.tape, h.output, by rw [set_size]; exact h.size, fun b hb hne => (set_ne _ _ _ _ (fun he => hne (by rw [he]))).trans (h.block b hb hne)⟩
theorem gtrans {a b c : World} {row : Option Nat} (h : a.grownBy b row) (k : b.grownBy c row) : a.grownBy c row :=
  ⟨k.os.trans h.os, k.tape.trans h.tape, k.output.trans h.output, Nat.le_trans h.size k.size, fun i hi hr => (k.block i (Nat.lt_of_lt_of_le hi h.size) hr).trans (h.block i hi hr)⟩
theorem gbl {w W : World} {row : Option Nat} (h : Below w.heap.size w W) : w.grownBy W row := grown_bl h _
theorem gbelow {w W : World} {B r : Nat} (h : w.grownBy W (some r)) (hB : B ≤ r) (hw : B ≤ w.heap.size) : Below B w W := (Below.refl B w).grown h hw (fun k hk => by have : r = k := Option.some.inj hk; omega)
section
variable {B r : Nat} {vt vw : Value} {at_ op e wh : Int} {w W : World}
set_option maxRecDepth 100000 in
theorem rFail2 (h : RdR B r vt vw at_ op e wh w) (er i : Int) : Calls Tryz.prog 80 #[.pointer (some ⟨r, 0, none⟩), .int .i64 er, .int .i64 i] w fun en W => en = .returned (.tuple #[]) ∧ RdR B r vt vw at_ op (if (e == 0) = true then er else e) (if (e == 0) = true then i else wh) W ∧ w.grownBy W (some r) := by
  obtain ⟨c0, c1, c2, c3, c4, c5⟩ := h.cells
  have f4 := h.free 4
  have hs := h.setE er
  have hs2 := hs.setWh i
  have f5 := hs.free 5
  have hb2 := gset (gset (World.grownBy.refl w (some r)) 4 (.int .i64 er)) 5 (.int .i64 i)
  have HS := Lib.hid hs2
  have HB := Lib.hid hb2
  have H := Lib.hid h
  obtain ⟨_, _, _, _, _, d5⟩ := hs.cells
  clear h hs hs2 hb2 c0 c1 c2 c3 c5
  go_enter Tryz.func80, Tryz.ntmps80
  cases he : (e == 0)
  · go_wp2_with fail
    go_end0
    exact ⟨rfl, H.out, World.grownBy.refl _ _⟩
  · go_wp2_with fail
    go_end0
    exact ⟨rfl, HS.out, HB.out⟩
end
section
variable {B r : Nat} {vt vw : Value} {at_ op wh : Int} {w W : World} {ts : List Tok}
set_option maxRecDepth 100000 in
theorem rCheck2 (h : RdR B r vt vw at_ op 0 wh w) (hr : TokRead w vt ts) {i : Nat} {t : Tok} (ht : ts[i]? = some t) (hz : t.text.size ≤ maxLen) :
    Calls Tryz.prog 77 #[.pointer (some ⟨r, 0, none⟩), .int .i64 i] w fun en W => en = .returned (.tuple #[]) ∧ RdR B r vt vw at_ op (ckE t) (ckW t i wh) W ∧ w.grownBy W (some r) := by
  obtain ⟨c0, c1, c2, c3, c4, c5⟩ := h.cells
  obtain ⟨a, c, rfl, ⟨hl1, hl2⟩, hk⟩ := hr
  obtain ⟨g, o, rfl, hg, m0, m1, m2, m3, m4⟩ := hk i t ht
  have hi : i < ts.length := (List.getElem?_eq_some_iff.1 ht).1
  have H := Lib.hid h
  have HK := Lib.hid hk
  clear h hk c1 c2 c3 c4 c5
  unfold maxLen at hl1
  go_enter Tryz.func77, Tryz.ntmps77
  go_wp2_with fail
  go_at_call 87
  refine (refCheck_tok t hz _).mono ?_
  rintro en W1 ⟨rfl, hb⟩
  have H1 := Lib.hid (H.out.bl hb)
  have HB1 : Hid (w.grownBy W1 (some r)) := Lib.hid (gbl hb)
  clear hb
  cases hq : tokOk t
  · have e1 : ckE t = 14 := by unfold ckE; rw [hq]; rfl
    have e2 : ckW t i wh = i := by unfold ckW; rw [hq]; rfl
    rw [tokEr_no hq]
    go_wp2_with fail
    go_at_call 80
    refine (rFail2 H1.out 14 i).mono ?_
    rintro en W2 ⟨rfl, h2, hb2⟩
    have H2 := Lib.hid (show RdR B r _ vw at_ op 14 i W2 from h2)
    have HB2 := Lib.hid (gtrans HB1.out hb2)
    clear h2 hb2
    go_wp2_with fail
    go_end0
    exact ⟨rfl, by rw [e1, e2]; exact H2.out, HB2.out⟩
  · have e1 : ckE t = 0 := by unfold ckE; rw [hq]; rfl
    have e2 : ckW t i wh = wh := by unfold ckW; rw [hq]; rfl
    rw [tokEr_ok hq]
    go_wp2_with fail
    go_end0
    exact ⟨rfl, by rw [e1, e2]; exact H1.out, HB1.out⟩
end
end Go.Proofs.YtopbmndjnjnmcaaGreatDoor
namespace Go.Proofs.YtopbmndjnjnmcaaGreatDoor
open Go.RowKit Lx
/- (U2) -/
attribute [local go_sem] Oper.semAt_some
theorem strs_own {W : World} {base n : Nat} {v : Value} {l : List ByteArray} (h : W.ownsRow base 9 1 v n (l.map Value.string)) (hn : n = l.length) : StrRead W v l := by
  obtain ⟨hlen, ⟨rfl, h0⟩ | ⟨g, cap, cur, rfl, hb, ho, hc, hm, hz, ht⟩⟩ := h
  · obtain rfl : l = [] := List.eq_nil_of_length_eq_zero (by omega)
    exact strs_nil W
  · subst hn
    have hg : g < W.heap.size := (Array.getElem?_eq_some_iff.1 ho).1
    refine ⟨_, cap, rfl, ⟨by omega, hc⟩, fun k s hk => ⟨g, 0, rfl, hg, ?_⟩⟩
    have hj : (l.map Value.string)[k]? = some (.string s) := by rw [List.getElem?_map, hk]; rfl
    rw [← ht, List.getElem?_take] at hj
    rw [Nat.zero_add]
    simp only [World.cell?, ho]
    split at hj
    · simpa using hj
    · cases hj
theorem strs_alloc (w : World) (zs : List ByteArray) (hz : zs.length ≤ 1000) : (w.alloc (.cells (zs.map Value.string).toArray 9)).ownsRow w.heap.size 9 1 (.slice (some ⟨w.heap.size, 0, none⟩) zs.length zs.length) zs.length (zs.map Value.string) := by
  refine ⟨by simp, .inr ⟨w.heap.size, zs.length, _, rfl, Nat.le_refl _, heap_alloc_new w _, Nat.le_refl _, by unfold maxLen; omega, by simp, ?_⟩⟩
  simp [List.take_of_length_le]
theorem wp_strs {w : World} {o : Oper} {a : Act} {K : Act → World → Prop} {Q : Exit → Act → World → Prop} (s x : Operand)
    (ho : o.op = .call { callee := .builtin .append, args := #[s, x], argTypes := #[23, 23] })
    {base : Nat} {v vx : Value} {l ws : List ByteArray} (hs : a.eval s = v) (hx : a.eval x = vx) (hown : w.ownsRow base 9 1 v l.length (l.map Value.string)) (hr : StrRead w vx ws) (hne : l ≠ []) (hl : l.length + ws.length ≤ 1000) (hbase : base ≤ w.heap.size)
    (hnil : ∀ n c, vx = .slice none n c → c = 0)
    (h : ∀ v' w', w'.ownsRow base 9 1 v' (l ++ ws).length ((l ++ ws).map Value.string) → w.grownBy w' v.ownBlock → (v'.ownBlock = v.ownBlock ∨ v'.ownBlock = some w.heap.size) → K (a.put o.dst v') w') : o.wp Tryz.prog a w K Q := by
  obtain ⟨i0, hi0, hz0, hz1, hz2⟩ := info_parts info9z
  have hlp : 0 < l.length := List.length_pos_iff.2 hne
  obtain ⟨ad, c, rfl, ⟨h1, h2⟩, hc⟩ := hr
  rcases List.eq_nil_or_concat ws with rfl | ⟨_, _, hcc⟩
  · obtain ⟨g, cap, rfl, hb, hg⟩ := hown.form hlp
    have hK : ∀ w', w'.ownsRow base 9 1 (.slice (some ⟨g, 0, none⟩) l.length cap) l.length (l.map Value.string) → w.grownBy w' (some g) → K (a.put o.dst (.slice (some ⟨g, 0, none⟩) l.length cap)) w' := fun w' q1 q2 => h _ w' (by simpa using q1) q2 (.inl rfl)
    cases ad with
    | none =>
      obtain rfl := hnil _ _ rfl
      have hrun := run_append_owned_none (P := Tryz.prog) w base 23 o.type 9 i0 1 Tryz.underlying23 hi0 _ l.length _ hown
      unfold Oper.wp
      simp [execOp, ho, resolve, invoke, builtin, hs, hx, hrun, Result.andThen]
      exact hK w hown (World.grownBy.refl _ _)
    | some ad =>
      obtain ⟨w', hrun, q1, q2⟩ := run_append_fits (P := Tryz.prog) w base 23 o.type 9 i0 1 Tryz.underlying23 hi0 hz1 g l.length cap _ hown ad 0 c [] (by simp) (by simp) (by simp) (owns_cap hown)
      unfold Oper.wp
      simp [execOp, ho, resolve, invoke, builtin, hs, hx, hrun, Result.andThen]
      exact hK w' (by simpa using q1) q2
  · have hwp : 0 < ws.length := by rw [hcc]; simp
    obtain ⟨s0, hs0⟩ : ∃ s0, ws[0]? = some s0 := ⟨_, List.getElem?_eq_getElem hwp⟩
    obtain ⟨g, oo, rfl, _, _⟩ := hc 0 s0 hs0
    refine wp_append_lies w s x 23 ho base 9 i0 _ 1 16 Tryz.underlying23 hi0 hz0 hz1 hz2 rfl (by omega) v l.length _ hs hown ⟨g, oo, none⟩ ws.length c (ws.map Value.string) hx (by simp) (fun j u hu => ?_) (fun u hu => ?_) hwp (by unfold maxLen; omega) (by omega) hbase w.heap.size rfl (fun g' cap' w' q1 q2 q3 _ => h _ w' (by rw [List.length_append, List.map_append]; exact q1) q2 ?_)
    · rw [List.getElem?_map, Option.map_eq_some_iff] at hu
      obtain ⟨s1, hs1, rfl⟩ := hu
      obtain ⟨g2, o2, he, _, hcell⟩ := hc j s1 hs1
      cases he
      rw [Addr.add_lit]; exact hcell
    · obtain ⟨s1, _, rfl⟩ := List.mem_map.1 hu
      rfl
    · rcases q3 with q3 | q3
      · exact .inl (by rw [q3]; rfl)
      · exact .inr (by rw [q3]; rfl)
theorem rWords_any (w : World) : Calls Tryz.prog 19 #[] w fun e W => e = .returned (.slice (some ⟨w.heap.size, 0, none⟩) 6 6) ∧ W = w.alloc (.cells (givenW.map Value.string).toArray 9) := by
  go_enter Tryz.func19, Tryz.ntmps19
  go_wp2_with fail
  go_ret
  exact ⟨rfl, rfl⟩
end Go.Proofs.YtopbmndjnjnmcaaGreatDoor
namespace Go.Proofs.YtopbmndjnjnmcaaGreatDoor
open Go.RowKit Lx
/- (U3) -/
attribute [local go_sem] Oper.semAt_some
/-- A step whose guard is met. -/
theorem step_met {P : Program} {ops : Array Oper} {o : Oper} {a : Act} {w : World} {K : Act → World → Prop} {Q : Exit → Act → World → Prop} {E : Prop} (hw : Region.wanted o (yielded ops a.tmps) = true) (h : Oper.wp P o a w K Q) :
    if Region.wanted o (yielded ops a.tmps) = true then Oper.wp P o a w K Q else E := by
  rw [if_pos hw]; exact h
theorem next_slot {ts : List Tok} {i : Nat} : nextAre ts i [tSlot] = (match ts[i + 1]? with | some t => isNm t tSlot | none => false) := by
  simp only [nextAre, Bool.and_true]
  cases ts[i + 1]? <;> rfl
theorem any_class {ws : List ByteArray} {t : Tok} (h : (t.text.toList == tClass.toList) = true) : (givenW ++ ws).any (fun x => x.toList == t.text.toList) = true := by
  rw [List.any_eq_true]
  refine ⟨tClass, List.mem_append_left _ (by unfold givenW; simp), ?_⟩
  rw [eq_of_beq h]; simp
section
variable {B r : Nat} {vt vw : Value} {at_ op e wh : Int} {w W : World} {ts : List Tok} {ws : List ByteArray}
set_option maxRecDepth 100000 in
set_option maxHeartbeats 4000000 in
theorem rOpens_any {i : Nat} {t : Tok} (h : RdR B r vt vw at_ op e wh w) (hr : TokRead w vt ts) (hws : StrRead w vw ws) (hwn : ∀ n c, vw = .slice none n c → c = 0) (h40 : ws.length ≤ 40) (ht : ts[i]? = some t) (hi6 : i ≤ 6000) (plain : Bool) :
    Calls Tryz.prog 81 #[.pointer (some ⟨r, 0, none⟩), .int .i64 i, .bool plain] w fun en W => en = .returned (.bool (rOpens ts ws i t plain)) ∧ Below w.heap.size w W := by
  obtain ⟨c0, c1, c2, c3, c4, c5⟩ := h.cells
  have lr := h.lt
  clear h c2 c3 c4 c5
  obtain ⟨a', c, rfl, ⟨hl1, hl2⟩, hk⟩ := hr
  unfold maxLen at hl1
  have hlt : i < ts.length := (List.getElem?_eq_some_iff.1 ht).1
  obtain ⟨g, o, rfl, hg, m0, m1, m2, m3, m4⟩ := hk _ t ht
  have HK := Lib.hid hk
  have HT := Lib.hid ht
  have HWS := Lib.hid hws
  have HWN := Lib.hid hwn
  have hba := (Below.refl w.heap.size w).alloc (Nat.le_refl _) (.cells (tokC t) 50)
  have HBA := Lib.hid hba
  have hi1 : decide ((i : Int) < (ts.length : Int)) = true := decide_eq_true (by omega)
  clear hk ht hws hwn
  go_enter Tryz.func81, Tryz.ntmps81
  cases h5 : (t.kind == 5)
  case true =>
    have e1 : rOpens ts ws i t plain = ((rBr t.text).toList != []) := by unfold rOpens; rw [h5]; rfl
    rw [e1]
    obtain ⟨br, hbr⟩ : ∃ br, rBr t.text = br := ⟨_, rfl⟩
    rw [hbr]
    have HBR := Lib.hid hbr
    clear hbr
    go_wp2_with fail
    go_at_call 108
    refine (rBracket_any t.text _).mono ?_
    rintro en W1 ⟨rfl, hb⟩
    rw [HBR.out]
    have HB1 := Lib.hid (HBA.out.trans (hb.mono HBA.out.size))
    clear hb
    cases hz : (br.toList == [])
    · go_wp2_with fail
      go_ret
      exact ⟨by first | rfl | (simp only [bne, hz]; rfl), HB1.out⟩
    · go_wp2_with fail
      go_ret
      exact ⟨by first | rfl | (simp only [bne, hz]; rfl), HB1.out⟩
  case false =>
    obtain ⟨m0', m1', m2', m3', m4'⟩ := box_cells t w _ (Below.refl _ _)
    cases h1 : (t.kind == 1)
    case false =>
      have e1 : rOpens ts ws i t plain = false := by unfold rOpens; simp only [h5, bne, h1]; rfl
      rw [e1]
      have h1b : (t.kind != 1) = true := by rw [bne, h1]; rfl
      go_wp2_with fail
      go_quiet (fail)
      go_wp2_with fail
      go_ret
      exact ⟨rfl, below_drewN HBA.out _⟩
    case true =>
      have h1b : (t.kind != 1) = false := by rw [bne, h1]; rfl
      cases plain
      case true =>
        have e1 : rOpens ts ws i t true = false := by unfold rOpens; simp only [h5, bne, h1]; rfl
        rw [e1]
        go_wp2_with fail
        go_quiet (fail)
        go_wp2_with fail
        go_ret
        exact ⟨rfl, below_drewN HBA.out _⟩
      case false =>
        go_wp2_with fail
        obtain ⟨wq, hwq⟩ : ∃ wq, w.alloc (.cells (tokC t) 50) = wq := ⟨_, rfl⟩
        have hwq' : w.alloc (.cells #[.int .i64 t.kind, .int .i64 t.num, .string t.text, .int .i64 t.at_, .int .i64 t.mark] 50) = wq := hwq
        have b1 : wq.cell? ⟨r, 1, none⟩ = some vw := by rw [← hwq]; exact (HBA.out.cell (p := ⟨r, 1, none⟩) lr).trans c1
        rw [hwq] at m0' m1' m2' m3' m4' 
        rw [hwq']
        have hsq : wq.heap.size = w.heap.size + 1 := by rw [← hwq, World.size_alloc]
        have lrq : r < wq.heap.size := by omega
        have lwq : w.heap.size < wq.heap.size := by omega
        have HBq : Hid (Below w.heap.size w wq) := Lib.hid (by rw [← hwq]; exact HBA.out)
        have HWq := Lib.hid (HWS.out.bl HBq.out)
        have C0 := Lib.hid c0
        clear hsq hwq hwq' hba HBA m0 m1 m2 m3 m4 c0 c1 m1' m3' m4'
        go_region_held3 (fun w' => w'.cell? ⟨r, 1, none⟩ = some vw ∧ w'.cell? ⟨w.heap.size, 0, none⟩ = some (.int .i64 t.kind) ∧ w'.cell? ⟨w.heap.size, 2, none⟩ = some (.string t.text)) (first | go_keep)
          (first
            | (go_at_call 19; refine (rWords_any _).mono ?_; rintro e9 w9 ⟨rfl, hw9⟩; have hb9 : Below wq.heap.size wq w9 := (by subst hw9; exact ((Below.refl _ wq).drew).alloc (Nat.le_refl _) _); have p1 : w9.cell? ⟨r, 1, none⟩ = some vw := (hb9.cell (p := ⟨r, 1, none⟩) lrq).trans b1; have p0 := (hb9.cell (p := ⟨w.heap.size, 0, none⟩) lwq).trans m0'; have p2 := (hb9.cell (p := ⟨w.heap.size, 2, none⟩) lwq).trans m2'; have HO9 : Hid (w9.ownsRow wq.heap.size 9 1 (.slice (some ⟨wq.heap.size, 0, none⟩) 6 6) givenW.length (givenW.map Value.string)) := Lib.hid (by subst hw9; exact strs_alloc wq.drew givenW (by decide)); have HW9 := Lib.hid (HWq.out.bl hb9); have HB9 := Lib.hid hb9; clear hw9 hb9)
            | (refine step_met (by first | rfl | simp [Region.wanted, yielded]) ?_; refine wp_strs (.tmp 29) (.tmp 33) (by rfl) (by rfl) (by rfl) HO9.out HW9.out (by unfold givenW; simp) (by unfold givenW; simp; omega) (by have := HB9.out.size; omega) HWN.out ?_; intro v10 w10 hown10 hg10 hv10; have hb10 := HB9.out.grown hg10 HB9.out.size (fun k hk => own_base HO9.out hk); have z1 : w10.cell? ⟨r, 1, none⟩ = some vw := (hb10.cell (p := ⟨r, 1, none⟩) lrq).trans b1; have z0 := (hb10.cell (p := ⟨w.heap.size, 0, none⟩) lwq).trans m0'; have z2 := (hb10.cell (p := ⟨w.heap.size, 2, none⟩) lwq).trans m2'; have HS10 := Lib.hid (strs_own hown10 rfl); have HB10 := Lib.hid hb10; clear hown10 hg10 hv10 hb10)
            | (go_at_call 67; refine (refIndex_any _ (givenW ++ ws) t.text _ HS10.out).mono ?_; rintro e11 w11 ⟨ri, rfl, hr1, hr2, hr3, rfl⟩; have HR3 := Lib.hid hr3; clear hr3))
        all_goals
          have hbw := HBq.out.trans (HB10.out.mono HBq.out.size)
          have HBW := Lib.hid hbw
          have y0 := (hbw.cell (p := ⟨r, 0, none⟩) lr).trans C0.out
          clear hbw HB10
          cases hany : (givenW ++ ws).any (fun x => x.toList == t.text.toList)
          · have e1 : rOpens ts ws i t false = false := by unfold rOpens; simp only [h5, h1b, hany]; rfl
            have d0 : ri < 0 := by
              rcases Int.lt_or_le ri 0 with h | h
              · exact h
              · have := HR3.out.1 h; rw [hany] at this; cases this
            have d1 : decide (ri < 0) = true := decide_eq_true d0
            have E1 := Lib.hid e1
            clear e1
            go_wp2_with fail
            go_ret
            exact ⟨by rw [E1.out]; rfl, HBW.out⟩
          · have d0 : 0 ≤ ri := HR3.out.2 hany
            have d1 : decide (ri < 0) = false := decide_eq_false (by omega)
            have e1 : rOpens ts ws i t false = ((t.text.toList != tClass.toList) || !nextAre ts i [tSlot]) := by unfold rOpens; simp only [h5, h1b, hany]; rfl
            have E1 := Lib.hid e1
            clear e1
            cases hc : (t.text.toList == [99, 108, 97, 115, 115])
            · have hcb : (t.text.toList != tClass.toList) = true := by rw [bne, show tClass.toList = [99, 108, 97, 115, 115] by decide +kernel, hc]; rfl
              have HCB := Lib.hid hcb
              clear hcb
              go_wp2_with fail
              go_ret
              exact ⟨by rw [E1.out, HCB.out]; rfl, HBW.out⟩
            · have hcb : (t.text.toList != tClass.toList) = false := by rw [bne, show tClass.toList = [99, 108, 97, 115, 115] by decide +kernel, hc]; rfl
              have HCB := Lib.hid hcb
              clear hcb
              by_cases hl : i + 1 < ts.length
              · obtain ⟨t2, ht2⟩ : ∃ t2, ts[i + 1]? = some t2 := ⟨_, List.getElem?_eq_getElem hl⟩
                have E2 : Hid (nextAre ts i [tSlot] = isNm t2 tSlot) := Lib.hid (by rw [next_slot, ht2])
                obtain ⟨g2, o2, he2, hg2, n0, n1, n2, n3, n4⟩ := HK.out (i + 1) t2 ht2
                cases he2
                have x0 := (HBW.out.cell (p := ⟨g, o + (i + 1) * 5, none⟩) hg2).trans n0
                have x1 := (HBW.out.cell (p := ⟨g, o + (i + 1) * 5 + 1, none⟩) hg2).trans n1
                have x2 := (HBW.out.cell (p := ⟨g, o + (i + 1) * 5 + 2, none⟩) hg2).trans n2
                have x3 := (HBW.out.cell (p := ⟨g, o + (i + 1) * 5 + 3, none⟩) hg2).trans n3
                have x4 := (HBW.out.cell (p := ⟨g, o + (i + 1) * 5 + 4, none⟩) hg2).trans n4
                have d2 : decide ((ts.length : Int) ≤ ((i : Int) + 1)) = false := decide_eq_false (by omega)
                have k1 : (i : Int) + 1 < (ts.length : Int) := by omega
                clear n0 n1 n2 n3 n4 ht2
                go_wp2_with fail
                go_at_call 107
                refine (rIsName_any t2 tSlot _).mono ?_
                rintro e12 w12 ⟨rfl, hb12⟩
                have HB12 := Lib.hid (HBW.out.trans (hb12.mono HBW.out.size))
                clear hb12
                go_wp2_with fail
                go_ret
                exact ⟨by rw [E1.out, E2.out, HCB.out]; rfl, HB12.out⟩
              · have E2 : Hid (nextAre ts i [tSlot] = false) := Lib.hid (by rw [next_slot, List.getElem?_eq_none (by omega)])
                have d2 : decide ((ts.length : Int) ≤ ((i : Int) + 1)) = true := decide_eq_true (by omega)
                go_wp2_with fail
                go_ret
                exact ⟨by rw [E1.out, E2.out, HCB.out]; rfl, HBW.out⟩
end
end Go.Proofs.YtopbmndjnjnmcaaGreatDoor
namespace Go.Proofs.YtopbmndjnjnmcaaGreatDoor
open Go.RowKit Lx
/- (U4) -/
attribute [local go_sem] Oper.semAt_some
/-- What is left when names behind a group's end were passed over. -/
def DropR (ts : List Tok) (N a : Nat) (B r : Nat) (vt vw : Value) (op wh : Int) (W : World) : Prop :=
  ∃ at' e' wh' : Int, RdR B r vt vw at' op e' wh' W ∧ ((e' = 0 ∧ at' = ((a + N : Nat) : Int) ∧ wh' = wh ∧ badAt ts N a = none) ∨ (e' = 14 ∧ ∃ q : Nat, wh' = q ∧ badAt ts N a = some q))
theorem any3 (f : ByteArray → Bool) : [tClass, tMethod, tMacro].any f = nmd3.any f := by
  unfold nmd3
  simp only [List.any_cons, List.any_nil]
  cases f tClass <;> cases f tMethod <;> rfl
def drp (ts : List Tok) (a : Nat) (op : ByteArray) (l : List Fr) : Nat := if nmd3.any (fun x => x.toList == op.toList) = true then rN ts a op l else 0
theorem rWord_some {ts : List Tok} {i : Nat} {x : ByteArray} (h : rWord ts i x = true) : ∃ t, ts[i]? = some t := by
  unfold rWord at h
  cases ht : ts[i]? with
  | none => rw [ht] at h; simp at h
  | some t => exact ⟨t, rfl⟩
theorem badAt_step {ts : List Tok} {n i : Nat} {t : Tok} (ht : ts[i]? = some t) : badAt ts (n + 1) i = if tokOk t = true then badAt ts n (i + 1) else some i := by
  simp only [badAt, ht]
/-- The round of the loop. -/
def DropI (ts : List Tok) (N a : Nat) (B r : Nat) (vt vw : Value) (op wh : Int) (w : World) (j : Nat) (at' e' wh' : Int) (W : World) : Prop :=
  RdR B r vt vw at' op e' wh' W ∧ w.grownBy W (some r) ∧ ((e' = 0 ∧ at' = ((a + j : Nat) : Int) ∧ wh' = wh ∧ badAt ts N a = badAt ts (N - j) (a + j)) ∨ (e' = 14 ∧ ∃ q : Nat, wh' = q ∧ badAt ts N a = some q))
theorem DropI.done {ts : List Tok} {N a B r : Nat} {vt vw : Value} {op wh : Int} {w W : World} {j : Nat} {at' e' wh' : Int} (h : DropI ts N a B r vt vw op wh w j at' e' wh' W) (hj : j = N ∨ e' ≠ 0) : DropR ts N a B r vt vw op wh W ∧ w.grownBy W (some r) := by
  obtain ⟨h1, h2, h3⟩ := h
  refine ⟨⟨_, _, _, h1, ?_⟩, h2⟩
  rcases h3 with ⟨e1, e2, e3, e4⟩ | h3
  · left
    rcases hj with rfl | hj
    · rw [Nat.sub_self] at e4
      exact ⟨e1, e2, e3, e4⟩
    · exact absurd e1 hj
  · exact .inr h3
theorem DropI.next {ts : List Tok} {N a B r : Nat} {vt vw : Value} {op wh : Int} {w W W9 : World} {j : Nat} {t : Tok} (hg : w.grownBy W (some r)) (hlt : j < N) (ht : ts[a + j]? = some t) (hbad : badAt ts N a = badAt ts (N - j) (a + j))
    (h9 : RdR B r vt vw ((a + j : Nat) : Int) op (ckE t) (ckW t ((a + j : Nat) : Int) wh) W9) (hb9 : W.grownBy W9 (some r)) :
    DropI ts N a B r vt vw op wh w (j + 1) ((a + j + 1 : Nat) : Int) (ckE t) (ckW t ((a + j : Nat) : Int) wh) (W9.setCell ⟨r, 2, none⟩ (.int .i64 ((a + j + 1 : Nat) : Int))) := by
  refine ⟨h9.setAt _, gset (gtrans hg hb9) 2 _, ?_⟩
  obtain ⟨m, hm⟩ : ∃ m, N - j = m + 1 := ⟨N - j - 1, by omega⟩
  rw [hm, badAt_step ht] at hbad
  cases hq : tokOk t
  · right
    rw [hq] at hbad
    exact ⟨by unfold ckE; rw [hq]; rfl, a + j, by unfold ckW; rw [hq]; rfl, by simpa using hbad⟩
  · left
    rw [hq] at hbad
    refine ⟨by unfold ckE; rw [hq]; rfl, by rw [Nat.add_assoc], by unfold ckW; rw [hq]; rfl, ?_⟩
    rw [show N - (j + 1) = m by omega, ← Nat.add_assoc]
    simpa using hbad
section
variable {B r : Nat} {vt vw : Value} {op wh : Int} {w W : World} {ts : List Tok} {S : Nat → Prop} {l : List Fr} {kv : Value}
set_option maxRecDepth 100000 in
set_option maxHeartbeats 8000000 in
theorem rDrop_any {a : Nat} (h : RdR B r vt vw a op 0 wh w) (hr : TokLow B vt ts w) (hBw : B ≤ w.heap.size) (hk : FrRead w S kv l) (hz : ∀ t ∈ ts, t.text.size ≤ maxLen) (ha : a ≤ 7000) (opn : ByteArray) :
    Calls Tryz.prog 109 #[.pointer (some ⟨r, 0, none⟩), .string opn, kv] w fun en W => en = .returned (.tuple #[]) ∧ DropR ts (drp ts a opn l) a B r vt vw op wh W ∧ w.grownBy W (some r) := by
  obtain ⟨ka, kc, kg, ko, rfl, ⟨hm1, hm2⟩, hka, hkat⟩ := hk
  unfold maxLen at hm1
  have hba := (Below.refl w.heap.size w).alloc (Nat.le_refl _) (.cells ([tClass, tMethod, tMacro].map Value.string).toArray 9)
  have HS := Lib.hid (strs_new w [tClass, tMethod, tMacro] (by simp))
  have H0 := Lib.hid (h.bl hba)
  have hba2 : w.grownBy (w.alloc (.cells ([tClass, tMethod, tMacro].map Value.string).toArray 9)) (some r) := gbl hba
  have HG0 := Lib.hid hba2
  have HTL : Hid (∀ W, w.grownBy W (some r) → TokRead W vt ts) := Lib.hid (fun W hg => hr W (gbelow hg h.base hBw))
  have HZ := Lib.hid hz
  have lr := h.lt
  obtain ⟨N, hN⟩ : ∃ N, drp ts a opn l = N := ⟨_, rfl⟩
  rw [hN]
  have HN := Lib.hid hN
  obtain ⟨res, hres⟩ : ∃ res, ([tClass, tMethod, tMacro].any fun x => x.toList == opn.toList) = res := ⟨_, rfl⟩
  have HE := Lib.hid hres
  have HBA := Lib.hid hba
  clear h hr hz hba2 hN hres hba
  go_enter Tryz.func109, Tryz.ntmps109
  go_wp2_with fail
  go_at_call 67
  refine (refIndex_any _ _ opn _ HS.out).mono ?_
  rintro e W1 ⟨ri, rfl, hr1, hr2, hr3, rfl⟩
  have HR3 := Lib.hid hr3
  clear hr3
  cases res
  · have hneg : ¬ 0 ≤ ri := fun h => by have := HR3.out.1 h; rw [HE.out] at this; cases this
    have d0 : ri < 0 := by omega
    have d1 : decide (ri < 0) = true := decide_eq_true d0
    have hN0 : N = 0 := by rw [← HN.out]; unfold drp; rw [← any3, HE.out]; rfl
    go_wp2_with fail
    refine bodyPost_ret (results_none rfl _ _ _) rfl ?_
    exact ⟨rfl, ⟨_, _, _, H0.out, .inl ⟨rfl, by rw [hN0]; rfl, rfl, by rw [hN0]; rfl⟩⟩, HG0.out⟩
  · have hpos : 0 ≤ ri := HR3.out.2 HE.out
    have d1 : decide (ri < 0) = false := decide_eq_false (by omega)
    have hN2 : rN ts a opn l = N := by rw [← HN.out]; unfold drp; rw [← any3, HE.out]; rfl
    clear HN HE HR3
    obtain ⟨nm, hnm⟩ : ∃ nm, rNm l = nm := ⟨_, rfl⟩
    obtain ⟨b0, hb0⟩ : ∃ b, rWord ts a opn = b := ⟨_, rfl⟩
    obtain ⟨b1, hb1⟩ : ∃ b, rWord ts (a + 1) nm = b := ⟨_, rfl⟩
    obtain ⟨b2, hb2⟩ : ∃ b, stopsAt ts (a + 2) = b := ⟨_, rfl⟩
    obtain ⟨b3, hb3⟩ : ∃ b, rWord ts a nm = b := ⟨_, rfl⟩
    obtain ⟨b4, hb4⟩ : ∃ b, stopsAt ts (a + 1) = b := ⟨_, rfl⟩
    have HEX : Hid (∀ j, j < N → ∃ t, ts[a + j]? = some t) := Lib.hid (fun j hj => by
      rw [← hN2] at hj
      unfold rN at hj
      rw [hnm, hb0, hb1, hb2, hb3, hb4] at hj
      split at hj
      · rename_i hc
        simp only [Bool.and_eq_true] at hc
        obtain ⟨rfl, rfl, rfl⟩ := hc
        rcases j with _ | j
        · exact rWord_some hb0
        · obtain rfl : j = 0 := by omega
          exact rWord_some hb1
      · split at hj
        · rename_i hc
          simp only [Bool.and_eq_true, Bool.or_eq_true] at hc
          obtain rfl : j = 0 := by omega
          rcases hc.1 with rfl | rfl
          · exact rWord_some hb0
          · exact rWord_some hb3
        · omega)
    have HQ : Hid (rWord ts (a + 0) opn = b0 ∧ rWord ts (a + 1) nm = b1 ∧ stopsAt ts (a + 2) = b2 ∧ rWord ts (a + 0) nm = b3 ∧ stopsAt ts (a + 1) = b4) := Lib.hid ⟨hb0, hb1, hb2, hb3, hb4⟩
    have HN3 : Hid (N = if (b0 && (b1 && b2)) = true then 2 else if ((b0 || b3) && b4) = true then 1 else 0) := Lib.hid (by rw [← hN2]; unfold rN; rw [hnm, hb0, hb1, hb2, hb3, hb4])
    have HNM := Lib.hid hnm
    clear hN2 hnm hb0 hb1 hb2 hb3 hb4
    have HTR := HTL.out _ HG0.out
    have HT0 := Lib.hid HTR
    clear HTR
    rcases l with _ | ⟨f, lr⟩
    · obtain rfl : (⟨#[]⟩ : ByteArray) = nm := HNM.out
      go_wp2_with fail
      go_at_call 125
      refine (rWord_any H0.out HT0.out 0 opn (by omega)).mono ?_
      rintro en W2 ⟨rfl, hb⟩
      rw [HQ.out.1]
      have H1 := Lib.hid (H0.out.bl hb)
      have HG1 := Lib.hid (gtrans HG0.out (gbl hb))
      have HT1 := Lib.hid (HTL.out _ HG1.out)
      clear hb
      cases b0
      · skip
        go_wp2_with fail
        go_at_call 125
        refine (rWord_any H1.out HT1.out 0 opn (by omega)).mono ?_
        rintro en W3 ⟨rfl, hb⟩
        rw [HQ.out.1]
        have H2 := Lib.hid (H1.out.bl hb)
        have HG2 := Lib.hid (gtrans HG1.out (gbl hb))
        have HT2 := Lib.hid (HTL.out _ HG2.out)
        clear hb
        go_wp2_with fail
        go_at_call 125
        refine (rWord_any H2.out HT2.out 0 ⟨#[]⟩ (by omega)).mono ?_
        rintro en W4 ⟨rfl, hb⟩
        rw [HQ.out.2.2.2.1]
        have H3 := Lib.hid (H2.out.bl hb)
        have HG3 := Lib.hid (gtrans HG2.out (gbl hb))
        have HT3 := Lib.hid (HTL.out _ HG3.out)
        clear hb
        cases b3
        · skip
          have hNN : N = 0 := HN3.out
          subst hNN
          have HD := Lib.hid ((show DropI ts 0 a B r vt vw op wh w 0 a 0 wh W4 from ⟨H3.out, HG3.out, .inl ⟨rfl, rfl, rfl, rfl⟩⟩).done (.inl rfl))
          go_wp2_with fail
          go_loopg [8] 1 (fun k x wr => x = .int .i64 0 ∧ wr = W4)
          case atStart => exact ⟨rfl, rfl⟩
          case round =>
            obtain ⟨rfl, rfl⟩ := hrel
            go_wp2_with fail
            go_end0
            exact ⟨rfl, HD.out.1, HD.out.2⟩
        · skip
          go_wp2_with fail
          go_at_call 126
          refine (rStop_any H3.out HT3.out 1 (by omega)).mono ?_
          rintro en W5 ⟨rfl, hb⟩
          rw [HQ.out.2.2.2.2]
          have H4 := Lib.hid (H3.out.bl hb)
          have HG4 := Lib.hid (gtrans HG3.out (gbl hb))
          have HT4 := Lib.hid (HTL.out _ HG4.out)
          clear hb
          cases b4
          · skip
            have hNN : N = 0 := HN3.out
            subst hNN
            have HD := Lib.hid ((show DropI ts 0 a B r vt vw op wh w 0 a 0 wh W5 from ⟨H4.out, HG4.out, .inl ⟨rfl, rfl, rfl, rfl⟩⟩).done (.inl rfl))
            go_wp2_with fail
            go_loopg [8] 1 (fun k x wr => x = .int .i64 0 ∧ wr = W5)
            case atStart => exact ⟨rfl, rfl⟩
            case round =>
              obtain ⟨rfl, rfl⟩ := hrel
              go_wp2_with fail
              go_end0
              exact ⟨rfl, HD.out.1, HD.out.2⟩
          · skip
            have hNN : N = 1 := HN3.out
            subst hNN
            have HI0 := Lib.hid (show DropI ts 1 a B r vt vw op wh w 0 a 0 wh W5 from ⟨H4.out, HG4.out, .inl ⟨rfl, rfl, rfl, rfl⟩⟩)
            clear HN3 HQ
            go_wp2_with fail
            go_loopg [8] 2 (fun k x wr => ∃ (j : Nat) (at' e' wh' : Int), x = .int .i64 j ∧ j ≤ 1 ∧ 1 ≤ j + k ∧ Hid (DropI ts 1 a B r vt vw op wh w j at' e' wh' wr))
            case atStart => exact ⟨0, a, 0, wh, rfl, by omega, by omega, HI0⟩
            case round =>
              obtain ⟨j, at', e', wh', rfl, hj1, hj2, HI⟩ := hrel
              obtain ⟨hI1, hI2, hI3⟩ := HI.out
              obtain ⟨q, hq⟩ | ⟨q, hq⟩ : (∃ q : Unit, e' = 0) ∨ (∃ q : Unit, e' = 14) := by rcases hI3 with h | h; exact .inl ⟨(), h.1⟩; exact .inr ⟨(), h.1⟩
              · subst hq
                have hI5 : at' = ((a + j : Nat) : Int) ∧ wh' = wh ∧ badAt ts 1 a = badAt ts (1 - j) (a + j) := by
                  rcases hI3 with h | h
                  · exact h.2
                  · exact absurd h.1 (by decide)
                obtain ⟨rfl, rfl, hbad⟩ := hI5
                obtain ⟨c0, c1, c2, c3, c4, c5⟩ := hI1.cells
                by_cases hlt : j < 1
                · obtain ⟨k', hkk⟩ : ∃ k', gk = k' + 1 := ⟨gk - 1, by omega⟩
                  subst hkk
                  obtain ⟨t, ht⟩ := HEX.out j hlt
                  have HT9 := Lib.hid (HTL.out _ hI2)
                  have H9 := Lib.hid hI1
                  have HG9 := Lib.hid hI2
                  have HTT := Lib.hid ht
                  have HBD := Lib.hid hbad
                  have k1 : (j : Int) < 1 := by omega
                  have hw1 : IntKind.i64.wrap (((a + j : Nat) : Int) + 1) = ((a + j + 1 : Nat) : Int) := by rw [IntWalk.i64_in _ (by omega)]; omega
                  clear hI1 hI2 hI3 ht hbad
                  go_wp2_with fail
                  go_at_call 77
                  refine (rCheck2 H9.out HT9.out HTT.out (HZ.out t (List.mem_of_getElem? HTT.out))).mono ?_
                  rintro en W99 ⟨rfl, h9, hb9⟩
                  obtain ⟨d0, d1, d2, d3, d4, d5⟩ := h9.cells
                  have f2 := h9.free 2
                  have HN9 := Lib.hid (DropI.next HG9.out hlt HTT.out HBD.out h9 hb9)
                  clear h9 hb9 d0 d1 d3 d4 d5 c0 c1 c2 c3 c4 c5
                  go_wp2_with fail
                  rw [show ((a + j + 1 : Nat) : Int) = (a : Int) + (j : Int) + 1 by omega] at HN9
                  go_roundg k'
                  case measure => omega
                  case rel => exact ⟨j + 1, _, _, _, by go_num, by omega, by omega, HN9⟩
                · have HD := Lib.hid (HI.out.done (.inl (by omega)))
                  have k1 : ¬ (j : Int) < 1 := by omega
                  clear hI1 hI2 hI3
                  go_wp2_with fail
                  go_end0
                  exact ⟨rfl, HD.out.1, HD.out.2⟩
              · subst hq
                have HD := Lib.hid (HI.out.done (.inr (by decide)))
                obtain ⟨c0, c1, c2, c3, c4, c5⟩ := hI1.cells
                clear hI1 hI2 hI3
                by_cases hlt : j < 1
                · have k1 : (j : Int) < 1 := by omega
                  go_wp2_with fail
                  go_end0
                  exact ⟨rfl, HD.out.1, HD.out.2⟩
                · have k1 : ¬ (j : Int) < 1 := by omega
                  go_wp2_with fail
                  go_end0
                  exact ⟨rfl, HD.out.1, HD.out.2⟩
      · skip
        go_wp2_with fail
        go_at_call 125
        refine (rWord_any H1.out HT1.out 1 ⟨#[]⟩ (by omega)).mono ?_
        rintro en W3 ⟨rfl, hb⟩
        rw [HQ.out.2.1]
        have H2 := Lib.hid (H1.out.bl hb)
        have HG2 := Lib.hid (gtrans HG1.out (gbl hb))
        have HT2 := Lib.hid (HTL.out _ HG2.out)
        clear hb
        cases b1
        · skip
          go_wp2_with fail
          go_at_call 125
          refine (rWord_any H2.out HT2.out 0 opn (by omega)).mono ?_
          rintro en W4 ⟨rfl, hb⟩
          rw [HQ.out.1]
          have H3 := Lib.hid (H2.out.bl hb)
          have HG3 := Lib.hid (gtrans HG2.out (gbl hb))
          have HT3 := Lib.hid (HTL.out _ HG3.out)
          clear hb
          go_wp2_with fail
          go_at_call 126
          refine (rStop_any H3.out HT3.out 1 (by omega)).mono ?_
          rintro en W5 ⟨rfl, hb⟩
          rw [HQ.out.2.2.2.2]
          have H4 := Lib.hid (H3.out.bl hb)
          have HG4 := Lib.hid (gtrans HG3.out (gbl hb))
          have HT4 := Lib.hid (HTL.out _ HG4.out)
          clear hb
          cases b4
          · skip
            have hNN : N = 0 := HN3.out
            subst hNN
            have HD := Lib.hid ((show DropI ts 0 a B r vt vw op wh w 0 a 0 wh W5 from ⟨H4.out, HG4.out, .inl ⟨rfl, rfl, rfl, rfl⟩⟩).done (.inl rfl))
            go_wp2_with fail
            go_loopg [8] 1 (fun k x wr => x = .int .i64 0 ∧ wr = W5)
            case atStart => exact ⟨rfl, rfl⟩
            case round =>
              obtain ⟨rfl, rfl⟩ := hrel
              go_wp2_with fail
              go_end0
              exact ⟨rfl, HD.out.1, HD.out.2⟩
          · skip
            have hNN : N = 1 := HN3.out
            subst hNN
            have HI0 := Lib.hid (show DropI ts 1 a B r vt vw op wh w 0 a 0 wh W5 from ⟨H4.out, HG4.out, .inl ⟨rfl, rfl, rfl, rfl⟩⟩)
            clear HN3 HQ
            go_wp2_with fail
            go_loopg [8] 2 (fun k x wr => ∃ (j : Nat) (at' e' wh' : Int), x = .int .i64 j ∧ j ≤ 1 ∧ 1 ≤ j + k ∧ Hid (DropI ts 1 a B r vt vw op wh w j at' e' wh' wr))
            case atStart => exact ⟨0, a, 0, wh, rfl, by omega, by omega, HI0⟩
            case round =>
              obtain ⟨j, at', e', wh', rfl, hj1, hj2, HI⟩ := hrel
              obtain ⟨hI1, hI2, hI3⟩ := HI.out
              obtain ⟨q, hq⟩ | ⟨q, hq⟩ : (∃ q : Unit, e' = 0) ∨ (∃ q : Unit, e' = 14) := by rcases hI3 with h | h; exact .inl ⟨(), h.1⟩; exact .inr ⟨(), h.1⟩
              · subst hq
                have hI5 : at' = ((a + j : Nat) : Int) ∧ wh' = wh ∧ badAt ts 1 a = badAt ts (1 - j) (a + j) := by
                  rcases hI3 with h | h
                  · exact h.2
                  · exact absurd h.1 (by decide)
                obtain ⟨rfl, rfl, hbad⟩ := hI5
                obtain ⟨c0, c1, c2, c3, c4, c5⟩ := hI1.cells
                by_cases hlt : j < 1
                · obtain ⟨k', hkk⟩ : ∃ k', gk = k' + 1 := ⟨gk - 1, by omega⟩
                  subst hkk
                  obtain ⟨t, ht⟩ := HEX.out j hlt
                  have HT9 := Lib.hid (HTL.out _ hI2)
                  have H9 := Lib.hid hI1
                  have HG9 := Lib.hid hI2
                  have HTT := Lib.hid ht
                  have HBD := Lib.hid hbad
                  have k1 : (j : Int) < 1 := by omega
                  have hw1 : IntKind.i64.wrap (((a + j : Nat) : Int) + 1) = ((a + j + 1 : Nat) : Int) := by rw [IntWalk.i64_in _ (by omega)]; omega
                  clear hI1 hI2 hI3 ht hbad
                  go_wp2_with fail
                  go_at_call 77
                  refine (rCheck2 H9.out HT9.out HTT.out (HZ.out t (List.mem_of_getElem? HTT.out))).mono ?_
                  rintro en W99 ⟨rfl, h9, hb9⟩
                  obtain ⟨d0, d1, d2, d3, d4, d5⟩ := h9.cells
                  have f2 := h9.free 2
                  have HN9 := Lib.hid (DropI.next HG9.out hlt HTT.out HBD.out h9 hb9)
                  clear h9 hb9 d0 d1 d3 d4 d5 c0 c1 c2 c3 c4 c5
                  go_wp2_with fail
                  rw [show ((a + j + 1 : Nat) : Int) = (a : Int) + (j : Int) + 1 by omega] at HN9
                  go_roundg k'
                  case measure => omega
                  case rel => exact ⟨j + 1, _, _, _, by go_num, by omega, by omega, HN9⟩
                · have HD := Lib.hid (HI.out.done (.inl (by omega)))
                  have k1 : ¬ (j : Int) < 1 := by omega
                  clear hI1 hI2 hI3
                  go_wp2_with fail
                  go_end0
                  exact ⟨rfl, HD.out.1, HD.out.2⟩
              · subst hq
                have HD := Lib.hid (HI.out.done (.inr (by decide)))
                obtain ⟨c0, c1, c2, c3, c4, c5⟩ := hI1.cells
                clear hI1 hI2 hI3
                by_cases hlt : j < 1
                · have k1 : (j : Int) < 1 := by omega
                  go_wp2_with fail
                  go_end0
                  exact ⟨rfl, HD.out.1, HD.out.2⟩
                · have k1 : ¬ (j : Int) < 1 := by omega
                  go_wp2_with fail
                  go_end0
                  exact ⟨rfl, HD.out.1, HD.out.2⟩
        · skip
          go_wp2_with fail
          go_at_call 126
          refine (rStop_any H2.out HT2.out 2 (by omega)).mono ?_
          rintro en W4 ⟨rfl, hb⟩
          rw [HQ.out.2.2.1]
          have H3 := Lib.hid (H2.out.bl hb)
          have HG3 := Lib.hid (gtrans HG2.out (gbl hb))
          have HT3 := Lib.hid (HTL.out _ HG3.out)
          clear hb
          cases b2
          · skip
            go_wp2_with fail
            go_at_call 125
            refine (rWord_any H3.out HT3.out 0 opn (by omega)).mono ?_
            rintro en W5 ⟨rfl, hb⟩
            rw [HQ.out.1]
            have H4 := Lib.hid (H3.out.bl hb)
            have HG4 := Lib.hid (gtrans HG3.out (gbl hb))
            have HT4 := Lib.hid (HTL.out _ HG4.out)
            clear hb
            go_wp2_with fail
            go_at_call 126
            refine (rStop_any H4.out HT4.out 1 (by omega)).mono ?_
            rintro en W6 ⟨rfl, hb⟩
            rw [HQ.out.2.2.2.2]
            have H5 := Lib.hid (H4.out.bl hb)
            have HG5 := Lib.hid (gtrans HG4.out (gbl hb))
            have HT5 := Lib.hid (HTL.out _ HG5.out)
            clear hb
            cases b4
            · skip
              have hNN : N = 0 := HN3.out
              subst hNN
              have HD := Lib.hid ((show DropI ts 0 a B r vt vw op wh w 0 a 0 wh W6 from ⟨H5.out, HG5.out, .inl ⟨rfl, rfl, rfl, rfl⟩⟩).done (.inl rfl))
              go_wp2_with fail
              go_loopg [8] 1 (fun k x wr => x = .int .i64 0 ∧ wr = W6)
              case atStart => exact ⟨rfl, rfl⟩
              case round =>
                obtain ⟨rfl, rfl⟩ := hrel
                go_wp2_with fail
                go_end0
                exact ⟨rfl, HD.out.1, HD.out.2⟩
            · skip
              have hNN : N = 1 := HN3.out
              subst hNN
              have HI0 := Lib.hid (show DropI ts 1 a B r vt vw op wh w 0 a 0 wh W6 from ⟨H5.out, HG5.out, .inl ⟨rfl, rfl, rfl, rfl⟩⟩)
              clear HN3 HQ
              go_wp2_with fail
              go_loopg [8] 2 (fun k x wr => ∃ (j : Nat) (at' e' wh' : Int), x = .int .i64 j ∧ j ≤ 1 ∧ 1 ≤ j + k ∧ Hid (DropI ts 1 a B r vt vw op wh w j at' e' wh' wr))
              case atStart => exact ⟨0, a, 0, wh, rfl, by omega, by omega, HI0⟩
              case round =>
                obtain ⟨j, at', e', wh', rfl, hj1, hj2, HI⟩ := hrel
                obtain ⟨hI1, hI2, hI3⟩ := HI.out
                obtain ⟨q, hq⟩ | ⟨q, hq⟩ : (∃ q : Unit, e' = 0) ∨ (∃ q : Unit, e' = 14) := by rcases hI3 with h | h; exact .inl ⟨(), h.1⟩; exact .inr ⟨(), h.1⟩
                · subst hq
                  have hI5 : at' = ((a + j : Nat) : Int) ∧ wh' = wh ∧ badAt ts 1 a = badAt ts (1 - j) (a + j) := by
                    rcases hI3 with h | h
                    · exact h.2
                    · exact absurd h.1 (by decide)
                  obtain ⟨rfl, rfl, hbad⟩ := hI5
                  obtain ⟨c0, c1, c2, c3, c4, c5⟩ := hI1.cells
                  by_cases hlt : j < 1
                  · obtain ⟨k', hkk⟩ : ∃ k', gk = k' + 1 := ⟨gk - 1, by omega⟩
                    subst hkk
                    obtain ⟨t, ht⟩ := HEX.out j hlt
                    have HT9 := Lib.hid (HTL.out _ hI2)
                    have H9 := Lib.hid hI1
                    have HG9 := Lib.hid hI2
                    have HTT := Lib.hid ht
                    have HBD := Lib.hid hbad
                    have k1 : (j : Int) < 1 := by omega
                    have hw1 : IntKind.i64.wrap (((a + j : Nat) : Int) + 1) = ((a + j + 1 : Nat) : Int) := by rw [IntWalk.i64_in _ (by omega)]; omega
                    clear hI1 hI2 hI3 ht hbad
                    go_wp2_with fail
                    go_at_call 77
                    refine (rCheck2 H9.out HT9.out HTT.out (HZ.out t (List.mem_of_getElem? HTT.out))).mono ?_
                    rintro en W99 ⟨rfl, h9, hb9⟩
                    obtain ⟨d0, d1, d2, d3, d4, d5⟩ := h9.cells
                    have f2 := h9.free 2
                    have HN9 := Lib.hid (DropI.next HG9.out hlt HTT.out HBD.out h9 hb9)
                    clear h9 hb9 d0 d1 d3 d4 d5 c0 c1 c2 c3 c4 c5
                    go_wp2_with fail
                    rw [show ((a + j + 1 : Nat) : Int) = (a : Int) + (j : Int) + 1 by omega] at HN9
                    go_roundg k'
                    case measure => omega
                    case rel => exact ⟨j + 1, _, _, _, by go_num, by omega, by omega, HN9⟩
                  · have HD := Lib.hid (HI.out.done (.inl (by omega)))
                    have k1 : ¬ (j : Int) < 1 := by omega
                    clear hI1 hI2 hI3
                    go_wp2_with fail
                    go_end0
                    exact ⟨rfl, HD.out.1, HD.out.2⟩
                · subst hq
                  have HD := Lib.hid (HI.out.done (.inr (by decide)))
                  obtain ⟨c0, c1, c2, c3, c4, c5⟩ := hI1.cells
                  clear hI1 hI2 hI3
                  by_cases hlt : j < 1
                  · have k1 : (j : Int) < 1 := by omega
                    go_wp2_with fail
                    go_end0
                    exact ⟨rfl, HD.out.1, HD.out.2⟩
                  · have k1 : ¬ (j : Int) < 1 := by omega
                    go_wp2_with fail
                    go_end0
                    exact ⟨rfl, HD.out.1, HD.out.2⟩
          · skip
            have hNN : N = 2 := HN3.out
            subst hNN
            have HI0 := Lib.hid (show DropI ts 2 a B r vt vw op wh w 0 a 0 wh W4 from ⟨H3.out, HG3.out, .inl ⟨rfl, rfl, rfl, rfl⟩⟩)
            clear HN3 HQ
            go_wp2_with fail
            go_loopg [8] 2 (fun k x wr => ∃ (j : Nat) (at' e' wh' : Int), x = .int .i64 j ∧ j ≤ 2 ∧ 2 ≤ j + k ∧ Hid (DropI ts 2 a B r vt vw op wh w j at' e' wh' wr))
            case atStart => exact ⟨0, a, 0, wh, rfl, by omega, by omega, HI0⟩
            case round =>
              obtain ⟨j, at', e', wh', rfl, hj1, hj2, HI⟩ := hrel
              obtain ⟨hI1, hI2, hI3⟩ := HI.out
              obtain ⟨q, hq⟩ | ⟨q, hq⟩ : (∃ q : Unit, e' = 0) ∨ (∃ q : Unit, e' = 14) := by rcases hI3 with h | h; exact .inl ⟨(), h.1⟩; exact .inr ⟨(), h.1⟩
              · subst hq
                have hI5 : at' = ((a + j : Nat) : Int) ∧ wh' = wh ∧ badAt ts 2 a = badAt ts (2 - j) (a + j) := by
                  rcases hI3 with h | h
                  · exact h.2
                  · exact absurd h.1 (by decide)
                obtain ⟨rfl, rfl, hbad⟩ := hI5
                obtain ⟨c0, c1, c2, c3, c4, c5⟩ := hI1.cells
                by_cases hlt : j < 2
                · obtain ⟨k', hkk⟩ : ∃ k', gk = k' + 1 := ⟨gk - 1, by omega⟩
                  subst hkk
                  obtain ⟨t, ht⟩ := HEX.out j hlt
                  have HT9 := Lib.hid (HTL.out _ hI2)
                  have H9 := Lib.hid hI1
                  have HG9 := Lib.hid hI2
                  have HTT := Lib.hid ht
                  have HBD := Lib.hid hbad
                  have k1 : (j : Int) < 2 := by omega
                  have hw1 : IntKind.i64.wrap (((a + j : Nat) : Int) + 1) = ((a + j + 1 : Nat) : Int) := by rw [IntWalk.i64_in _ (by omega)]; omega
                  clear hI1 hI2 hI3 ht hbad
                  go_wp2_with fail
                  go_at_call 77
                  refine (rCheck2 H9.out HT9.out HTT.out (HZ.out t (List.mem_of_getElem? HTT.out))).mono ?_
                  rintro en W99 ⟨rfl, h9, hb9⟩
                  obtain ⟨d0, d1, d2, d3, d4, d5⟩ := h9.cells
                  have f2 := h9.free 2
                  have HN9 := Lib.hid (DropI.next HG9.out hlt HTT.out HBD.out h9 hb9)
                  clear h9 hb9 d0 d1 d3 d4 d5 c0 c1 c2 c3 c4 c5
                  go_wp2_with fail
                  rw [show ((a + j + 1 : Nat) : Int) = (a : Int) + (j : Int) + 1 by omega] at HN9
                  go_roundg k'
                  case measure => omega
                  case rel => exact ⟨j + 1, _, _, _, by go_num, by omega, by omega, HN9⟩
                · have HD := Lib.hid (HI.out.done (.inl (by omega)))
                  have k1 : ¬ (j : Int) < 2 := by omega
                  clear hI1 hI2 hI3
                  go_wp2_with fail
                  go_end0
                  exact ⟨rfl, HD.out.1, HD.out.2⟩
              · subst hq
                have HD := Lib.hid (HI.out.done (.inr (by decide)))
                obtain ⟨c0, c1, c2, c3, c4, c5⟩ := hI1.cells
                clear hI1 hI2 hI3
                by_cases hlt : j < 2
                · have k1 : (j : Int) < 2 := by omega
                  go_wp2_with fail
                  go_end0
                  exact ⟨rfl, HD.out.1, HD.out.2⟩
                · have k1 : ¬ (j : Int) < 2 := by omega
                  go_wp2_with fail
                  go_end0
                  exact ⟨rfl, HD.out.1, HD.out.2⟩
    · obtain ⟨kv, hs, hg, c0, c1, c2, c3, c4, c5, c6, hkr⟩ := hkat.get (k := 0) (f := f) rfl
      obtain rfl : ka = some ⟨kg, ko, none⟩ := hka (by simp)
      have m0 : (w.alloc (.cells #[.string tClass, .string tMethod, .string tMacro] 9)).cell? ⟨kg, ko, none⟩ = some (.int .i64 f.tok.kind) := by have := (HBA.out.cell (p := ⟨kg, ko + 0 * 7, none⟩) hg).trans c0; simp only [Nat.zero_mul, Nat.add_zero] at this; exact this
      have m2 : (w.alloc (.cells #[.string tClass, .string tMethod, .string tMacro] 9)).cell? ⟨kg, ko + 2, none⟩ = some (.string f.tok.text) := by have := (HBA.out.cell (p := ⟨kg, ko + 0 * 7 + 2, none⟩) hg).trans c2; simp only [Nat.zero_mul, Nat.add_zero] at this; exact this
      have m5 : (w.alloc (.cells #[.string tClass, .string tMethod, .string tMacro] 9)).cell? ⟨kg, ko + 5, none⟩ = some (.string f.op) := by have := (HBA.out.cell (p := ⟨kg, ko + 0 * 7 + 5, none⟩) hg).trans c5; simp only [Nat.zero_mul, Nat.add_zero] at this; exact this
      have HLP : (0 : Int) < (lr.length : Int) + 1 := by omega
      clear c0 c1 c2 c3 c4 c5 c6 hkr hs hkat hka
      cases e1 : (f.op.toList == [])
      · obtain rfl : (⟨#[]⟩ : ByteArray) = nm := by rw [← HNM.out]; simp only [rNm, e1, Bool.false_and, Bool.false_eq_true, if_false]
        go_wp2_with fail
        go_at_call 125
        refine (rWord_any H0.out HT0.out 0 opn (by omega)).mono ?_
        rintro en W2 ⟨rfl, hb⟩
        rw [HQ.out.1]
        have H1 := Lib.hid (H0.out.bl hb)
        have HG1 := Lib.hid (gtrans HG0.out (gbl hb))
        have HT1 := Lib.hid (HTL.out _ HG1.out)
        clear hb
        cases b0
        · skip
          go_wp2_with fail
          go_at_call 125
          refine (rWord_any H1.out HT1.out 0 opn (by omega)).mono ?_
          rintro en W3 ⟨rfl, hb⟩
          rw [HQ.out.1]
          have H2 := Lib.hid (H1.out.bl hb)
          have HG2 := Lib.hid (gtrans HG1.out (gbl hb))
          have HT2 := Lib.hid (HTL.out _ HG2.out)
          clear hb
          go_wp2_with fail
          go_at_call 125
          refine (rWord_any H2.out HT2.out 0 ⟨#[]⟩ (by omega)).mono ?_
          rintro en W4 ⟨rfl, hb⟩
          rw [HQ.out.2.2.2.1]
          have H3 := Lib.hid (H2.out.bl hb)
          have HG3 := Lib.hid (gtrans HG2.out (gbl hb))
          have HT3 := Lib.hid (HTL.out _ HG3.out)
          clear hb
          cases b3
          · skip
            have hNN : N = 0 := HN3.out
            subst hNN
            have HD := Lib.hid ((show DropI ts 0 a B r vt vw op wh w 0 a 0 wh W4 from ⟨H3.out, HG3.out, .inl ⟨rfl, rfl, rfl, rfl⟩⟩).done (.inl rfl))
            go_wp2_with fail
            go_loopg [8] 1 (fun k x wr => x = .int .i64 0 ∧ wr = W4)
            case atStart => exact ⟨rfl, rfl⟩
            case round =>
              obtain ⟨rfl, rfl⟩ := hrel
              go_wp2_with fail
              go_end0
              exact ⟨rfl, HD.out.1, HD.out.2⟩
          · skip
            go_wp2_with fail
            go_at_call 126
            refine (rStop_any H3.out HT3.out 1 (by omega)).mono ?_
            rintro en W5 ⟨rfl, hb⟩
            rw [HQ.out.2.2.2.2]
            have H4 := Lib.hid (H3.out.bl hb)
            have HG4 := Lib.hid (gtrans HG3.out (gbl hb))
            have HT4 := Lib.hid (HTL.out _ HG4.out)
            clear hb
            cases b4
            · skip
              have hNN : N = 0 := HN3.out
              subst hNN
              have HD := Lib.hid ((show DropI ts 0 a B r vt vw op wh w 0 a 0 wh W5 from ⟨H4.out, HG4.out, .inl ⟨rfl, rfl, rfl, rfl⟩⟩).done (.inl rfl))
              go_wp2_with fail
              go_loopg [8] 1 (fun k x wr => x = .int .i64 0 ∧ wr = W5)
              case atStart => exact ⟨rfl, rfl⟩
              case round =>
                obtain ⟨rfl, rfl⟩ := hrel
                go_wp2_with fail
                go_end0
                exact ⟨rfl, HD.out.1, HD.out.2⟩
            · skip
              have hNN : N = 1 := HN3.out
              subst hNN
              have HI0 := Lib.hid (show DropI ts 1 a B r vt vw op wh w 0 a 0 wh W5 from ⟨H4.out, HG4.out, .inl ⟨rfl, rfl, rfl, rfl⟩⟩)
              clear HN3 HQ
              go_wp2_with fail
              go_loopg [8] 2 (fun k x wr => ∃ (j : Nat) (at' e' wh' : Int), x = .int .i64 j ∧ j ≤ 1 ∧ 1 ≤ j + k ∧ Hid (DropI ts 1 a B r vt vw op wh w j at' e' wh' wr))
              case atStart => exact ⟨0, a, 0, wh, rfl, by omega, by omega, HI0⟩
              case round =>
                obtain ⟨j, at', e', wh', rfl, hj1, hj2, HI⟩ := hrel
                obtain ⟨hI1, hI2, hI3⟩ := HI.out
                obtain ⟨q, hq⟩ | ⟨q, hq⟩ : (∃ q : Unit, e' = 0) ∨ (∃ q : Unit, e' = 14) := by rcases hI3 with h | h; exact .inl ⟨(), h.1⟩; exact .inr ⟨(), h.1⟩
                · subst hq
                  have hI5 : at' = ((a + j : Nat) : Int) ∧ wh' = wh ∧ badAt ts 1 a = badAt ts (1 - j) (a + j) := by
                    rcases hI3 with h | h
                    · exact h.2
                    · exact absurd h.1 (by decide)
                  obtain ⟨rfl, rfl, hbad⟩ := hI5
                  obtain ⟨c0, c1, c2, c3, c4, c5⟩ := hI1.cells
                  by_cases hlt : j < 1
                  · obtain ⟨k', hkk⟩ : ∃ k', gk = k' + 1 := ⟨gk - 1, by omega⟩
                    subst hkk
                    obtain ⟨t, ht⟩ := HEX.out j hlt
                    have HT9 := Lib.hid (HTL.out _ hI2)
                    have H9 := Lib.hid hI1
                    have HG9 := Lib.hid hI2
                    have HTT := Lib.hid ht
                    have HBD := Lib.hid hbad
                    have k1 : (j : Int) < 1 := by omega
                    have hw1 : IntKind.i64.wrap (((a + j : Nat) : Int) + 1) = ((a + j + 1 : Nat) : Int) := by rw [IntWalk.i64_in _ (by omega)]; omega
                    clear hI1 hI2 hI3 ht hbad
                    go_wp2_with fail
                    go_at_call 77
                    refine (rCheck2 H9.out HT9.out HTT.out (HZ.out t (List.mem_of_getElem? HTT.out))).mono ?_
                    rintro en W99 ⟨rfl, h9, hb9⟩
                    obtain ⟨d0, d1, d2, d3, d4, d5⟩ := h9.cells
                    have f2 := h9.free 2
                    have HN9 := Lib.hid (DropI.next HG9.out hlt HTT.out HBD.out h9 hb9)
                    clear h9 hb9 d0 d1 d3 d4 d5 c0 c1 c2 c3 c4 c5
                    go_wp2_with fail
                    rw [show ((a + j + 1 : Nat) : Int) = (a : Int) + (j : Int) + 1 by omega] at HN9
                    go_roundg k'
                    case measure => omega
                    case rel => exact ⟨j + 1, _, _, _, by go_num, by omega, by omega, HN9⟩
                  · have HD := Lib.hid (HI.out.done (.inl (by omega)))
                    have k1 : ¬ (j : Int) < 1 := by omega
                    clear hI1 hI2 hI3
                    go_wp2_with fail
                    go_end0
                    exact ⟨rfl, HD.out.1, HD.out.2⟩
                · subst hq
                  have HD := Lib.hid (HI.out.done (.inr (by decide)))
                  obtain ⟨c0, c1, c2, c3, c4, c5⟩ := hI1.cells
                  clear hI1 hI2 hI3
                  by_cases hlt : j < 1
                  · have k1 : (j : Int) < 1 := by omega
                    go_wp2_with fail
                    go_end0
                    exact ⟨rfl, HD.out.1, HD.out.2⟩
                  · have k1 : ¬ (j : Int) < 1 := by omega
                    go_wp2_with fail
                    go_end0
                    exact ⟨rfl, HD.out.1, HD.out.2⟩
        · skip
          go_wp2_with fail
          go_at_call 125
          refine (rWord_any H1.out HT1.out 1 ⟨#[]⟩ (by omega)).mono ?_
          rintro en W3 ⟨rfl, hb⟩
          rw [HQ.out.2.1]
          have H2 := Lib.hid (H1.out.bl hb)
          have HG2 := Lib.hid (gtrans HG1.out (gbl hb))
          have HT2 := Lib.hid (HTL.out _ HG2.out)
          clear hb
          cases b1
          · skip
            go_wp2_with fail
            go_at_call 125
            refine (rWord_any H2.out HT2.out 0 opn (by omega)).mono ?_
            rintro en W4 ⟨rfl, hb⟩
            rw [HQ.out.1]
            have H3 := Lib.hid (H2.out.bl hb)
            have HG3 := Lib.hid (gtrans HG2.out (gbl hb))
            have HT3 := Lib.hid (HTL.out _ HG3.out)
            clear hb
            go_wp2_with fail
            go_at_call 126
            refine (rStop_any H3.out HT3.out 1 (by omega)).mono ?_
            rintro en W5 ⟨rfl, hb⟩
            rw [HQ.out.2.2.2.2]
            have H4 := Lib.hid (H3.out.bl hb)
            have HG4 := Lib.hid (gtrans HG3.out (gbl hb))
            have HT4 := Lib.hid (HTL.out _ HG4.out)
            clear hb
            cases b4
            · skip
              have hNN : N = 0 := HN3.out
              subst hNN
              have HD := Lib.hid ((show DropI ts 0 a B r vt vw op wh w 0 a 0 wh W5 from ⟨H4.out, HG4.out, .inl ⟨rfl, rfl, rfl, rfl⟩⟩).done (.inl rfl))
              go_wp2_with fail
              go_loopg [8] 1 (fun k x wr => x = .int .i64 0 ∧ wr = W5)
              case atStart => exact ⟨rfl, rfl⟩
              case round =>
                obtain ⟨rfl, rfl⟩ := hrel
                go_wp2_with fail
                go_end0
                exact ⟨rfl, HD.out.1, HD.out.2⟩
            · skip
              have hNN : N = 1 := HN3.out
              subst hNN
              have HI0 := Lib.hid (show DropI ts 1 a B r vt vw op wh w 0 a 0 wh W5 from ⟨H4.out, HG4.out, .inl ⟨rfl, rfl, rfl, rfl⟩⟩)
              clear HN3 HQ
              go_wp2_with fail
              go_loopg [8] 2 (fun k x wr => ∃ (j : Nat) (at' e' wh' : Int), x = .int .i64 j ∧ j ≤ 1 ∧ 1 ≤ j + k ∧ Hid (DropI ts 1 a B r vt vw op wh w j at' e' wh' wr))
              case atStart => exact ⟨0, a, 0, wh, rfl, by omega, by omega, HI0⟩
              case round =>
                obtain ⟨j, at', e', wh', rfl, hj1, hj2, HI⟩ := hrel
                obtain ⟨hI1, hI2, hI3⟩ := HI.out
                obtain ⟨q, hq⟩ | ⟨q, hq⟩ : (∃ q : Unit, e' = 0) ∨ (∃ q : Unit, e' = 14) := by rcases hI3 with h | h; exact .inl ⟨(), h.1⟩; exact .inr ⟨(), h.1⟩
                · subst hq
                  have hI5 : at' = ((a + j : Nat) : Int) ∧ wh' = wh ∧ badAt ts 1 a = badAt ts (1 - j) (a + j) := by
                    rcases hI3 with h | h
                    · exact h.2
                    · exact absurd h.1 (by decide)
                  obtain ⟨rfl, rfl, hbad⟩ := hI5
                  obtain ⟨c0, c1, c2, c3, c4, c5⟩ := hI1.cells
                  by_cases hlt : j < 1
                  · obtain ⟨k', hkk⟩ : ∃ k', gk = k' + 1 := ⟨gk - 1, by omega⟩
                    subst hkk
                    obtain ⟨t, ht⟩ := HEX.out j hlt
                    have HT9 := Lib.hid (HTL.out _ hI2)
                    have H9 := Lib.hid hI1
                    have HG9 := Lib.hid hI2
                    have HTT := Lib.hid ht
                    have HBD := Lib.hid hbad
                    have k1 : (j : Int) < 1 := by omega
                    have hw1 : IntKind.i64.wrap (((a + j : Nat) : Int) + 1) = ((a + j + 1 : Nat) : Int) := by rw [IntWalk.i64_in _ (by omega)]; omega
                    clear hI1 hI2 hI3 ht hbad
                    go_wp2_with fail
                    go_at_call 77
                    refine (rCheck2 H9.out HT9.out HTT.out (HZ.out t (List.mem_of_getElem? HTT.out))).mono ?_
                    rintro en W99 ⟨rfl, h9, hb9⟩
                    obtain ⟨d0, d1, d2, d3, d4, d5⟩ := h9.cells
                    have f2 := h9.free 2
                    have HN9 := Lib.hid (DropI.next HG9.out hlt HTT.out HBD.out h9 hb9)
                    clear h9 hb9 d0 d1 d3 d4 d5 c0 c1 c2 c3 c4 c5
                    go_wp2_with fail
                    rw [show ((a + j + 1 : Nat) : Int) = (a : Int) + (j : Int) + 1 by omega] at HN9
                    go_roundg k'
                    case measure => omega
                    case rel => exact ⟨j + 1, _, _, _, by go_num, by omega, by omega, HN9⟩
                  · have HD := Lib.hid (HI.out.done (.inl (by omega)))
                    have k1 : ¬ (j : Int) < 1 := by omega
                    clear hI1 hI2 hI3
                    go_wp2_with fail
                    go_end0
                    exact ⟨rfl, HD.out.1, HD.out.2⟩
                · subst hq
                  have HD := Lib.hid (HI.out.done (.inr (by decide)))
                  obtain ⟨c0, c1, c2, c3, c4, c5⟩ := hI1.cells
                  clear hI1 hI2 hI3
                  by_cases hlt : j < 1
                  · have k1 : (j : Int) < 1 := by omega
                    go_wp2_with fail
                    go_end0
                    exact ⟨rfl, HD.out.1, HD.out.2⟩
                  · have k1 : ¬ (j : Int) < 1 := by omega
                    go_wp2_with fail
                    go_end0
                    exact ⟨rfl, HD.out.1, HD.out.2⟩
          · skip
            go_wp2_with fail
            go_at_call 126
            refine (rStop_any H2.out HT2.out 2 (by omega)).mono ?_
            rintro en W4 ⟨rfl, hb⟩
            rw [HQ.out.2.2.1]
            have H3 := Lib.hid (H2.out.bl hb)
            have HG3 := Lib.hid (gtrans HG2.out (gbl hb))
            have HT3 := Lib.hid (HTL.out _ HG3.out)
            clear hb
            cases b2
            · skip
              go_wp2_with fail
              go_at_call 125
              refine (rWord_any H3.out HT3.out 0 opn (by omega)).mono ?_
              rintro en W5 ⟨rfl, hb⟩
              rw [HQ.out.1]
              have H4 := Lib.hid (H3.out.bl hb)
              have HG4 := Lib.hid (gtrans HG3.out (gbl hb))
              have HT4 := Lib.hid (HTL.out _ HG4.out)
              clear hb
              go_wp2_with fail
              go_at_call 126
              refine (rStop_any H4.out HT4.out 1 (by omega)).mono ?_
              rintro en W6 ⟨rfl, hb⟩
              rw [HQ.out.2.2.2.2]
              have H5 := Lib.hid (H4.out.bl hb)
              have HG5 := Lib.hid (gtrans HG4.out (gbl hb))
              have HT5 := Lib.hid (HTL.out _ HG5.out)
              clear hb
              cases b4
              · skip
                have hNN : N = 0 := HN3.out
                subst hNN
                have HD := Lib.hid ((show DropI ts 0 a B r vt vw op wh w 0 a 0 wh W6 from ⟨H5.out, HG5.out, .inl ⟨rfl, rfl, rfl, rfl⟩⟩).done (.inl rfl))
                go_wp2_with fail
                go_loopg [8] 1 (fun k x wr => x = .int .i64 0 ∧ wr = W6)
                case atStart => exact ⟨rfl, rfl⟩
                case round =>
                  obtain ⟨rfl, rfl⟩ := hrel
                  go_wp2_with fail
                  go_end0
                  exact ⟨rfl, HD.out.1, HD.out.2⟩
              · skip
                have hNN : N = 1 := HN3.out
                subst hNN
                have HI0 := Lib.hid (show DropI ts 1 a B r vt vw op wh w 0 a 0 wh W6 from ⟨H5.out, HG5.out, .inl ⟨rfl, rfl, rfl, rfl⟩⟩)
                clear HN3 HQ
                go_wp2_with fail
                go_loopg [8] 2 (fun k x wr => ∃ (j : Nat) (at' e' wh' : Int), x = .int .i64 j ∧ j ≤ 1 ∧ 1 ≤ j + k ∧ Hid (DropI ts 1 a B r vt vw op wh w j at' e' wh' wr))
                case atStart => exact ⟨0, a, 0, wh, rfl, by omega, by omega, HI0⟩
                case round =>
                  obtain ⟨j, at', e', wh', rfl, hj1, hj2, HI⟩ := hrel
                  obtain ⟨hI1, hI2, hI3⟩ := HI.out
                  obtain ⟨q, hq⟩ | ⟨q, hq⟩ : (∃ q : Unit, e' = 0) ∨ (∃ q : Unit, e' = 14) := by rcases hI3 with h | h; exact .inl ⟨(), h.1⟩; exact .inr ⟨(), h.1⟩
                  · subst hq
                    have hI5 : at' = ((a + j : Nat) : Int) ∧ wh' = wh ∧ badAt ts 1 a = badAt ts (1 - j) (a + j) := by
                      rcases hI3 with h | h
                      · exact h.2
                      · exact absurd h.1 (by decide)
                    obtain ⟨rfl, rfl, hbad⟩ := hI5
                    obtain ⟨c0, c1, c2, c3, c4, c5⟩ := hI1.cells
                    by_cases hlt : j < 1
                    · obtain ⟨k', hkk⟩ : ∃ k', gk = k' + 1 := ⟨gk - 1, by omega⟩
                      subst hkk
                      obtain ⟨t, ht⟩ := HEX.out j hlt
                      have HT9 := Lib.hid (HTL.out _ hI2)
                      have H9 := Lib.hid hI1
                      have HG9 := Lib.hid hI2
                      have HTT := Lib.hid ht
                      have HBD := Lib.hid hbad
                      have k1 : (j : Int) < 1 := by omega
                      have hw1 : IntKind.i64.wrap (((a + j : Nat) : Int) + 1) = ((a + j + 1 : Nat) : Int) := by rw [IntWalk.i64_in _ (by omega)]; omega
                      clear hI1 hI2 hI3 ht hbad
                      go_wp2_with fail
                      go_at_call 77
                      refine (rCheck2 H9.out HT9.out HTT.out (HZ.out t (List.mem_of_getElem? HTT.out))).mono ?_
                      rintro en W99 ⟨rfl, h9, hb9⟩
                      obtain ⟨d0, d1, d2, d3, d4, d5⟩ := h9.cells
                      have f2 := h9.free 2
                      have HN9 := Lib.hid (DropI.next HG9.out hlt HTT.out HBD.out h9 hb9)
                      clear h9 hb9 d0 d1 d3 d4 d5 c0 c1 c2 c3 c4 c5
                      go_wp2_with fail
                      rw [show ((a + j + 1 : Nat) : Int) = (a : Int) + (j : Int) + 1 by omega] at HN9
                      go_roundg k'
                      case measure => omega
                      case rel => exact ⟨j + 1, _, _, _, by go_num, by omega, by omega, HN9⟩
                    · have HD := Lib.hid (HI.out.done (.inl (by omega)))
                      have k1 : ¬ (j : Int) < 1 := by omega
                      clear hI1 hI2 hI3
                      go_wp2_with fail
                      go_end0
                      exact ⟨rfl, HD.out.1, HD.out.2⟩
                  · subst hq
                    have HD := Lib.hid (HI.out.done (.inr (by decide)))
                    obtain ⟨c0, c1, c2, c3, c4, c5⟩ := hI1.cells
                    clear hI1 hI2 hI3
                    by_cases hlt : j < 1
                    · have k1 : (j : Int) < 1 := by omega
                      go_wp2_with fail
                      go_end0
                      exact ⟨rfl, HD.out.1, HD.out.2⟩
                    · have k1 : ¬ (j : Int) < 1 := by omega
                      go_wp2_with fail
                      go_end0
                      exact ⟨rfl, HD.out.1, HD.out.2⟩
            · skip
              have hNN : N = 2 := HN3.out
              subst hNN
              have HI0 := Lib.hid (show DropI ts 2 a B r vt vw op wh w 0 a 0 wh W4 from ⟨H3.out, HG3.out, .inl ⟨rfl, rfl, rfl, rfl⟩⟩)
              clear HN3 HQ
              go_wp2_with fail
              go_loopg [8] 2 (fun k x wr => ∃ (j : Nat) (at' e' wh' : Int), x = .int .i64 j ∧ j ≤ 2 ∧ 2 ≤ j + k ∧ Hid (DropI ts 2 a B r vt vw op wh w j at' e' wh' wr))
              case atStart => exact ⟨0, a, 0, wh, rfl, by omega, by omega, HI0⟩
              case round =>
                obtain ⟨j, at', e', wh', rfl, hj1, hj2, HI⟩ := hrel
                obtain ⟨hI1, hI2, hI3⟩ := HI.out
                obtain ⟨q, hq⟩ | ⟨q, hq⟩ : (∃ q : Unit, e' = 0) ∨ (∃ q : Unit, e' = 14) := by rcases hI3 with h | h; exact .inl ⟨(), h.1⟩; exact .inr ⟨(), h.1⟩
                · subst hq
                  have hI5 : at' = ((a + j : Nat) : Int) ∧ wh' = wh ∧ badAt ts 2 a = badAt ts (2 - j) (a + j) := by
                    rcases hI3 with h | h
                    · exact h.2
                    · exact absurd h.1 (by decide)
                  obtain ⟨rfl, rfl, hbad⟩ := hI5
                  obtain ⟨c0, c1, c2, c3, c4, c5⟩ := hI1.cells
                  by_cases hlt : j < 2
                  · obtain ⟨k', hkk⟩ : ∃ k', gk = k' + 1 := ⟨gk - 1, by omega⟩
                    subst hkk
                    obtain ⟨t, ht⟩ := HEX.out j hlt
                    have HT9 := Lib.hid (HTL.out _ hI2)
                    have H9 := Lib.hid hI1
                    have HG9 := Lib.hid hI2
                    have HTT := Lib.hid ht
                    have HBD := Lib.hid hbad
                    have k1 : (j : Int) < 2 := by omega
                    have hw1 : IntKind.i64.wrap (((a + j : Nat) : Int) + 1) = ((a + j + 1 : Nat) : Int) := by rw [IntWalk.i64_in _ (by omega)]; omega
                    clear hI1 hI2 hI3 ht hbad
                    go_wp2_with fail
                    go_at_call 77
                    refine (rCheck2 H9.out HT9.out HTT.out (HZ.out t (List.mem_of_getElem? HTT.out))).mono ?_
                    rintro en W99 ⟨rfl, h9, hb9⟩
                    obtain ⟨d0, d1, d2, d3, d4, d5⟩ := h9.cells
                    have f2 := h9.free 2
                    have HN9 := Lib.hid (DropI.next HG9.out hlt HTT.out HBD.out h9 hb9)
                    clear h9 hb9 d0 d1 d3 d4 d5 c0 c1 c2 c3 c4 c5
                    go_wp2_with fail
                    rw [show ((a + j + 1 : Nat) : Int) = (a : Int) + (j : Int) + 1 by omega] at HN9
                    go_roundg k'
                    case measure => omega
                    case rel => exact ⟨j + 1, _, _, _, by go_num, by omega, by omega, HN9⟩
                  · have HD := Lib.hid (HI.out.done (.inl (by omega)))
                    have k1 : ¬ (j : Int) < 2 := by omega
                    clear hI1 hI2 hI3
                    go_wp2_with fail
                    go_end0
                    exact ⟨rfl, HD.out.1, HD.out.2⟩
                · subst hq
                  have HD := Lib.hid (HI.out.done (.inr (by decide)))
                  obtain ⟨c0, c1, c2, c3, c4, c5⟩ := hI1.cells
                  clear hI1 hI2 hI3
                  by_cases hlt : j < 2
                  · have k1 : (j : Int) < 2 := by omega
                    go_wp2_with fail
                    go_end0
                    exact ⟨rfl, HD.out.1, HD.out.2⟩
                  · have k1 : ¬ (j : Int) < 2 := by omega
                    go_wp2_with fail
                    go_end0
                    exact ⟨rfl, HD.out.1, HD.out.2⟩
      · cases e2 : (f.tok.kind == 1)
        · obtain rfl : (⟨#[]⟩ : ByteArray) = nm := by rw [← HNM.out]; simp only [rNm, e1, e2, Bool.and_false, Bool.false_eq_true, if_false]
          go_wp2_with fail
          go_at_call 125
          refine (rWord_any H0.out HT0.out 0 opn (by omega)).mono ?_
          rintro en W2 ⟨rfl, hb⟩
          rw [HQ.out.1]
          have H1 := Lib.hid (H0.out.bl hb)
          have HG1 := Lib.hid (gtrans HG0.out (gbl hb))
          have HT1 := Lib.hid (HTL.out _ HG1.out)
          clear hb
          cases b0
          · skip
            go_wp2_with fail
            go_at_call 125
            refine (rWord_any H1.out HT1.out 0 opn (by omega)).mono ?_
            rintro en W3 ⟨rfl, hb⟩
            rw [HQ.out.1]
            have H2 := Lib.hid (H1.out.bl hb)
            have HG2 := Lib.hid (gtrans HG1.out (gbl hb))
            have HT2 := Lib.hid (HTL.out _ HG2.out)
            clear hb
            go_wp2_with fail
            go_at_call 125
            refine (rWord_any H2.out HT2.out 0 ⟨#[]⟩ (by omega)).mono ?_
            rintro en W4 ⟨rfl, hb⟩
            rw [HQ.out.2.2.2.1]
            have H3 := Lib.hid (H2.out.bl hb)
            have HG3 := Lib.hid (gtrans HG2.out (gbl hb))
            have HT3 := Lib.hid (HTL.out _ HG3.out)
            clear hb
            cases b3
            · skip
              have hNN : N = 0 := HN3.out
              subst hNN
              have HD := Lib.hid ((show DropI ts 0 a B r vt vw op wh w 0 a 0 wh W4 from ⟨H3.out, HG3.out, .inl ⟨rfl, rfl, rfl, rfl⟩⟩).done (.inl rfl))
              go_wp2_with fail
              go_loopg [8] 1 (fun k x wr => x = .int .i64 0 ∧ wr = W4)
              case atStart => exact ⟨rfl, rfl⟩
              case round =>
                obtain ⟨rfl, rfl⟩ := hrel
                go_wp2_with fail
                go_end0
                exact ⟨rfl, HD.out.1, HD.out.2⟩
            · skip
              go_wp2_with fail
              go_at_call 126
              refine (rStop_any H3.out HT3.out 1 (by omega)).mono ?_
              rintro en W5 ⟨rfl, hb⟩
              rw [HQ.out.2.2.2.2]
              have H4 := Lib.hid (H3.out.bl hb)
              have HG4 := Lib.hid (gtrans HG3.out (gbl hb))
              have HT4 := Lib.hid (HTL.out _ HG4.out)
              clear hb
              cases b4
              · skip
                have hNN : N = 0 := HN3.out
                subst hNN
                have HD := Lib.hid ((show DropI ts 0 a B r vt vw op wh w 0 a 0 wh W5 from ⟨H4.out, HG4.out, .inl ⟨rfl, rfl, rfl, rfl⟩⟩).done (.inl rfl))
                go_wp2_with fail
                go_loopg [8] 1 (fun k x wr => x = .int .i64 0 ∧ wr = W5)
                case atStart => exact ⟨rfl, rfl⟩
                case round =>
                  obtain ⟨rfl, rfl⟩ := hrel
                  go_wp2_with fail
                  go_end0
                  exact ⟨rfl, HD.out.1, HD.out.2⟩
              · skip
                have hNN : N = 1 := HN3.out
                subst hNN
                have HI0 := Lib.hid (show DropI ts 1 a B r vt vw op wh w 0 a 0 wh W5 from ⟨H4.out, HG4.out, .inl ⟨rfl, rfl, rfl, rfl⟩⟩)
                clear HN3 HQ
                go_wp2_with fail
                go_loopg [8] 2 (fun k x wr => ∃ (j : Nat) (at' e' wh' : Int), x = .int .i64 j ∧ j ≤ 1 ∧ 1 ≤ j + k ∧ Hid (DropI ts 1 a B r vt vw op wh w j at' e' wh' wr))
                case atStart => exact ⟨0, a, 0, wh, rfl, by omega, by omega, HI0⟩
                case round =>
                  obtain ⟨j, at', e', wh', rfl, hj1, hj2, HI⟩ := hrel
                  obtain ⟨hI1, hI2, hI3⟩ := HI.out
                  obtain ⟨q, hq⟩ | ⟨q, hq⟩ : (∃ q : Unit, e' = 0) ∨ (∃ q : Unit, e' = 14) := by rcases hI3 with h | h; exact .inl ⟨(), h.1⟩; exact .inr ⟨(), h.1⟩
                  · subst hq
                    have hI5 : at' = ((a + j : Nat) : Int) ∧ wh' = wh ∧ badAt ts 1 a = badAt ts (1 - j) (a + j) := by
                      rcases hI3 with h | h
                      · exact h.2
                      · exact absurd h.1 (by decide)
                    obtain ⟨rfl, rfl, hbad⟩ := hI5
                    obtain ⟨c0, c1, c2, c3, c4, c5⟩ := hI1.cells
                    by_cases hlt : j < 1
                    · obtain ⟨k', hkk⟩ : ∃ k', gk = k' + 1 := ⟨gk - 1, by omega⟩
                      subst hkk
                      obtain ⟨t, ht⟩ := HEX.out j hlt
                      have HT9 := Lib.hid (HTL.out _ hI2)
                      have H9 := Lib.hid hI1
                      have HG9 := Lib.hid hI2
                      have HTT := Lib.hid ht
                      have HBD := Lib.hid hbad
                      have k1 : (j : Int) < 1 := by omega
                      have hw1 : IntKind.i64.wrap (((a + j : Nat) : Int) + 1) = ((a + j + 1 : Nat) : Int) := by rw [IntWalk.i64_in _ (by omega)]; omega
                      clear hI1 hI2 hI3 ht hbad
                      go_wp2_with fail
                      go_at_call 77
                      refine (rCheck2 H9.out HT9.out HTT.out (HZ.out t (List.mem_of_getElem? HTT.out))).mono ?_
                      rintro en W99 ⟨rfl, h9, hb9⟩
                      obtain ⟨d0, d1, d2, d3, d4, d5⟩ := h9.cells
                      have f2 := h9.free 2
                      have HN9 := Lib.hid (DropI.next HG9.out hlt HTT.out HBD.out h9 hb9)
                      clear h9 hb9 d0 d1 d3 d4 d5 c0 c1 c2 c3 c4 c5
                      go_wp2_with fail
                      rw [show ((a + j + 1 : Nat) : Int) = (a : Int) + (j : Int) + 1 by omega] at HN9
                      go_roundg k'
                      case measure => omega
                      case rel => exact ⟨j + 1, _, _, _, by go_num, by omega, by omega, HN9⟩
                    · have HD := Lib.hid (HI.out.done (.inl (by omega)))
                      have k1 : ¬ (j : Int) < 1 := by omega
                      clear hI1 hI2 hI3
                      go_wp2_with fail
                      go_end0
                      exact ⟨rfl, HD.out.1, HD.out.2⟩
                  · subst hq
                    have HD := Lib.hid (HI.out.done (.inr (by decide)))
                    obtain ⟨c0, c1, c2, c3, c4, c5⟩ := hI1.cells
                    clear hI1 hI2 hI3
                    by_cases hlt : j < 1
                    · have k1 : (j : Int) < 1 := by omega
                      go_wp2_with fail
                      go_end0
                      exact ⟨rfl, HD.out.1, HD.out.2⟩
                    · have k1 : ¬ (j : Int) < 1 := by omega
                      go_wp2_with fail
                      go_end0
                      exact ⟨rfl, HD.out.1, HD.out.2⟩
          · skip
            go_wp2_with fail
            go_at_call 125
            refine (rWord_any H1.out HT1.out 1 ⟨#[]⟩ (by omega)).mono ?_
            rintro en W3 ⟨rfl, hb⟩
            rw [HQ.out.2.1]
            have H2 := Lib.hid (H1.out.bl hb)
            have HG2 := Lib.hid (gtrans HG1.out (gbl hb))
            have HT2 := Lib.hid (HTL.out _ HG2.out)
            clear hb
            cases b1
            · skip
              go_wp2_with fail
              go_at_call 125
              refine (rWord_any H2.out HT2.out 0 opn (by omega)).mono ?_
              rintro en W4 ⟨rfl, hb⟩
              rw [HQ.out.1]
              have H3 := Lib.hid (H2.out.bl hb)
              have HG3 := Lib.hid (gtrans HG2.out (gbl hb))
              have HT3 := Lib.hid (HTL.out _ HG3.out)
              clear hb
              go_wp2_with fail
              go_at_call 126
              refine (rStop_any H3.out HT3.out 1 (by omega)).mono ?_
              rintro en W5 ⟨rfl, hb⟩
              rw [HQ.out.2.2.2.2]
              have H4 := Lib.hid (H3.out.bl hb)
              have HG4 := Lib.hid (gtrans HG3.out (gbl hb))
              have HT4 := Lib.hid (HTL.out _ HG4.out)
              clear hb
              cases b4
              · skip
                have hNN : N = 0 := HN3.out
                subst hNN
                have HD := Lib.hid ((show DropI ts 0 a B r vt vw op wh w 0 a 0 wh W5 from ⟨H4.out, HG4.out, .inl ⟨rfl, rfl, rfl, rfl⟩⟩).done (.inl rfl))
                go_wp2_with fail
                go_loopg [8] 1 (fun k x wr => x = .int .i64 0 ∧ wr = W5)
                case atStart => exact ⟨rfl, rfl⟩
                case round =>
                  obtain ⟨rfl, rfl⟩ := hrel
                  go_wp2_with fail
                  go_end0
                  exact ⟨rfl, HD.out.1, HD.out.2⟩
              · skip
                have hNN : N = 1 := HN3.out
                subst hNN
                have HI0 := Lib.hid (show DropI ts 1 a B r vt vw op wh w 0 a 0 wh W5 from ⟨H4.out, HG4.out, .inl ⟨rfl, rfl, rfl, rfl⟩⟩)
                clear HN3 HQ
                go_wp2_with fail
                go_loopg [8] 2 (fun k x wr => ∃ (j : Nat) (at' e' wh' : Int), x = .int .i64 j ∧ j ≤ 1 ∧ 1 ≤ j + k ∧ Hid (DropI ts 1 a B r vt vw op wh w j at' e' wh' wr))
                case atStart => exact ⟨0, a, 0, wh, rfl, by omega, by omega, HI0⟩
                case round =>
                  obtain ⟨j, at', e', wh', rfl, hj1, hj2, HI⟩ := hrel
                  obtain ⟨hI1, hI2, hI3⟩ := HI.out
                  obtain ⟨q, hq⟩ | ⟨q, hq⟩ : (∃ q : Unit, e' = 0) ∨ (∃ q : Unit, e' = 14) := by rcases hI3 with h | h; exact .inl ⟨(), h.1⟩; exact .inr ⟨(), h.1⟩
                  · subst hq
                    have hI5 : at' = ((a + j : Nat) : Int) ∧ wh' = wh ∧ badAt ts 1 a = badAt ts (1 - j) (a + j) := by
                      rcases hI3 with h | h
                      · exact h.2
                      · exact absurd h.1 (by decide)
                    obtain ⟨rfl, rfl, hbad⟩ := hI5
                    obtain ⟨c0, c1, c2, c3, c4, c5⟩ := hI1.cells
                    by_cases hlt : j < 1
                    · obtain ⟨k', hkk⟩ : ∃ k', gk = k' + 1 := ⟨gk - 1, by omega⟩
                      subst hkk
                      obtain ⟨t, ht⟩ := HEX.out j hlt
                      have HT9 := Lib.hid (HTL.out _ hI2)
                      have H9 := Lib.hid hI1
                      have HG9 := Lib.hid hI2
                      have HTT := Lib.hid ht
                      have HBD := Lib.hid hbad
                      have k1 : (j : Int) < 1 := by omega
                      have hw1 : IntKind.i64.wrap (((a + j : Nat) : Int) + 1) = ((a + j + 1 : Nat) : Int) := by rw [IntWalk.i64_in _ (by omega)]; omega
                      clear hI1 hI2 hI3 ht hbad
                      go_wp2_with fail
                      go_at_call 77
                      refine (rCheck2 H9.out HT9.out HTT.out (HZ.out t (List.mem_of_getElem? HTT.out))).mono ?_
                      rintro en W99 ⟨rfl, h9, hb9⟩
                      obtain ⟨d0, d1, d2, d3, d4, d5⟩ := h9.cells
                      have f2 := h9.free 2
                      have HN9 := Lib.hid (DropI.next HG9.out hlt HTT.out HBD.out h9 hb9)
                      clear h9 hb9 d0 d1 d3 d4 d5 c0 c1 c2 c3 c4 c5
                      go_wp2_with fail
                      rw [show ((a + j + 1 : Nat) : Int) = (a : Int) + (j : Int) + 1 by omega] at HN9
                      go_roundg k'
                      case measure => omega
                      case rel => exact ⟨j + 1, _, _, _, by go_num, by omega, by omega, HN9⟩
                    · have HD := Lib.hid (HI.out.done (.inl (by omega)))
                      have k1 : ¬ (j : Int) < 1 := by omega
                      clear hI1 hI2 hI3
                      go_wp2_with fail
                      go_end0
                      exact ⟨rfl, HD.out.1, HD.out.2⟩
                  · subst hq
                    have HD := Lib.hid (HI.out.done (.inr (by decide)))
                    obtain ⟨c0, c1, c2, c3, c4, c5⟩ := hI1.cells
                    clear hI1 hI2 hI3
                    by_cases hlt : j < 1
                    · have k1 : (j : Int) < 1 := by omega
                      go_wp2_with fail
                      go_end0
                      exact ⟨rfl, HD.out.1, HD.out.2⟩
                    · have k1 : ¬ (j : Int) < 1 := by omega
                      go_wp2_with fail
                      go_end0
                      exact ⟨rfl, HD.out.1, HD.out.2⟩
            · skip
              go_wp2_with fail
              go_at_call 126
              refine (rStop_any H2.out HT2.out 2 (by omega)).mono ?_
              rintro en W4 ⟨rfl, hb⟩
              rw [HQ.out.2.2.1]
              have H3 := Lib.hid (H2.out.bl hb)
              have HG3 := Lib.hid (gtrans HG2.out (gbl hb))
              have HT3 := Lib.hid (HTL.out _ HG3.out)
              clear hb
              cases b2
              · skip
                go_wp2_with fail
                go_at_call 125
                refine (rWord_any H3.out HT3.out 0 opn (by omega)).mono ?_
                rintro en W5 ⟨rfl, hb⟩
                rw [HQ.out.1]
                have H4 := Lib.hid (H3.out.bl hb)
                have HG4 := Lib.hid (gtrans HG3.out (gbl hb))
                have HT4 := Lib.hid (HTL.out _ HG4.out)
                clear hb
                go_wp2_with fail
                go_at_call 126
                refine (rStop_any H4.out HT4.out 1 (by omega)).mono ?_
                rintro en W6 ⟨rfl, hb⟩
                rw [HQ.out.2.2.2.2]
                have H5 := Lib.hid (H4.out.bl hb)
                have HG5 := Lib.hid (gtrans HG4.out (gbl hb))
                have HT5 := Lib.hid (HTL.out _ HG5.out)
                clear hb
                cases b4
                · skip
                  have hNN : N = 0 := HN3.out
                  subst hNN
                  have HD := Lib.hid ((show DropI ts 0 a B r vt vw op wh w 0 a 0 wh W6 from ⟨H5.out, HG5.out, .inl ⟨rfl, rfl, rfl, rfl⟩⟩).done (.inl rfl))
                  go_wp2_with fail
                  go_loopg [8] 1 (fun k x wr => x = .int .i64 0 ∧ wr = W6)
                  case atStart => exact ⟨rfl, rfl⟩
                  case round =>
                    obtain ⟨rfl, rfl⟩ := hrel
                    go_wp2_with fail
                    go_end0
                    exact ⟨rfl, HD.out.1, HD.out.2⟩
                · skip
                  have hNN : N = 1 := HN3.out
                  subst hNN
                  have HI0 := Lib.hid (show DropI ts 1 a B r vt vw op wh w 0 a 0 wh W6 from ⟨H5.out, HG5.out, .inl ⟨rfl, rfl, rfl, rfl⟩⟩)
                  clear HN3 HQ
                  go_wp2_with fail
                  go_loopg [8] 2 (fun k x wr => ∃ (j : Nat) (at' e' wh' : Int), x = .int .i64 j ∧ j ≤ 1 ∧ 1 ≤ j + k ∧ Hid (DropI ts 1 a B r vt vw op wh w j at' e' wh' wr))
                  case atStart => exact ⟨0, a, 0, wh, rfl, by omega, by omega, HI0⟩
                  case round =>
                    obtain ⟨j, at', e', wh', rfl, hj1, hj2, HI⟩ := hrel
                    obtain ⟨hI1, hI2, hI3⟩ := HI.out
                    obtain ⟨q, hq⟩ | ⟨q, hq⟩ : (∃ q : Unit, e' = 0) ∨ (∃ q : Unit, e' = 14) := by rcases hI3 with h | h; exact .inl ⟨(), h.1⟩; exact .inr ⟨(), h.1⟩
                    · subst hq
                      have hI5 : at' = ((a + j : Nat) : Int) ∧ wh' = wh ∧ badAt ts 1 a = badAt ts (1 - j) (a + j) := by
                        rcases hI3 with h | h
                        · exact h.2
                        · exact absurd h.1 (by decide)
                      obtain ⟨rfl, rfl, hbad⟩ := hI5
                      obtain ⟨c0, c1, c2, c3, c4, c5⟩ := hI1.cells
                      by_cases hlt : j < 1
                      · obtain ⟨k', hkk⟩ : ∃ k', gk = k' + 1 := ⟨gk - 1, by omega⟩
                        subst hkk
                        obtain ⟨t, ht⟩ := HEX.out j hlt
                        have HT9 := Lib.hid (HTL.out _ hI2)
                        have H9 := Lib.hid hI1
                        have HG9 := Lib.hid hI2
                        have HTT := Lib.hid ht
                        have HBD := Lib.hid hbad
                        have k1 : (j : Int) < 1 := by omega
                        have hw1 : IntKind.i64.wrap (((a + j : Nat) : Int) + 1) = ((a + j + 1 : Nat) : Int) := by rw [IntWalk.i64_in _ (by omega)]; omega
                        clear hI1 hI2 hI3 ht hbad
                        go_wp2_with fail
                        go_at_call 77
                        refine (rCheck2 H9.out HT9.out HTT.out (HZ.out t (List.mem_of_getElem? HTT.out))).mono ?_
                        rintro en W99 ⟨rfl, h9, hb9⟩
                        obtain ⟨d0, d1, d2, d3, d4, d5⟩ := h9.cells
                        have f2 := h9.free 2
                        have HN9 := Lib.hid (DropI.next HG9.out hlt HTT.out HBD.out h9 hb9)
                        clear h9 hb9 d0 d1 d3 d4 d5 c0 c1 c2 c3 c4 c5
                        go_wp2_with fail
                        rw [show ((a + j + 1 : Nat) : Int) = (a : Int) + (j : Int) + 1 by omega] at HN9
                        go_roundg k'
                        case measure => omega
                        case rel => exact ⟨j + 1, _, _, _, by go_num, by omega, by omega, HN9⟩
                      · have HD := Lib.hid (HI.out.done (.inl (by omega)))
                        have k1 : ¬ (j : Int) < 1 := by omega
                        clear hI1 hI2 hI3
                        go_wp2_with fail
                        go_end0
                        exact ⟨rfl, HD.out.1, HD.out.2⟩
                    · subst hq
                      have HD := Lib.hid (HI.out.done (.inr (by decide)))
                      obtain ⟨c0, c1, c2, c3, c4, c5⟩ := hI1.cells
                      clear hI1 hI2 hI3
                      by_cases hlt : j < 1
                      · have k1 : (j : Int) < 1 := by omega
                        go_wp2_with fail
                        go_end0
                        exact ⟨rfl, HD.out.1, HD.out.2⟩
                      · have k1 : ¬ (j : Int) < 1 := by omega
                        go_wp2_with fail
                        go_end0
                        exact ⟨rfl, HD.out.1, HD.out.2⟩
              · skip
                have hNN : N = 2 := HN3.out
                subst hNN
                have HI0 := Lib.hid (show DropI ts 2 a B r vt vw op wh w 0 a 0 wh W4 from ⟨H3.out, HG3.out, .inl ⟨rfl, rfl, rfl, rfl⟩⟩)
                clear HN3 HQ
                go_wp2_with fail
                go_loopg [8] 2 (fun k x wr => ∃ (j : Nat) (at' e' wh' : Int), x = .int .i64 j ∧ j ≤ 2 ∧ 2 ≤ j + k ∧ Hid (DropI ts 2 a B r vt vw op wh w j at' e' wh' wr))
                case atStart => exact ⟨0, a, 0, wh, rfl, by omega, by omega, HI0⟩
                case round =>
                  obtain ⟨j, at', e', wh', rfl, hj1, hj2, HI⟩ := hrel
                  obtain ⟨hI1, hI2, hI3⟩ := HI.out
                  obtain ⟨q, hq⟩ | ⟨q, hq⟩ : (∃ q : Unit, e' = 0) ∨ (∃ q : Unit, e' = 14) := by rcases hI3 with h | h; exact .inl ⟨(), h.1⟩; exact .inr ⟨(), h.1⟩
                  · subst hq
                    have hI5 : at' = ((a + j : Nat) : Int) ∧ wh' = wh ∧ badAt ts 2 a = badAt ts (2 - j) (a + j) := by
                      rcases hI3 with h | h
                      · exact h.2
                      · exact absurd h.1 (by decide)
                    obtain ⟨rfl, rfl, hbad⟩ := hI5
                    obtain ⟨c0, c1, c2, c3, c4, c5⟩ := hI1.cells
                    by_cases hlt : j < 2
                    · obtain ⟨k', hkk⟩ : ∃ k', gk = k' + 1 := ⟨gk - 1, by omega⟩
                      subst hkk
                      obtain ⟨t, ht⟩ := HEX.out j hlt
                      have HT9 := Lib.hid (HTL.out _ hI2)
                      have H9 := Lib.hid hI1
                      have HG9 := Lib.hid hI2
                      have HTT := Lib.hid ht
                      have HBD := Lib.hid hbad
                      have k1 : (j : Int) < 2 := by omega
                      have hw1 : IntKind.i64.wrap (((a + j : Nat) : Int) + 1) = ((a + j + 1 : Nat) : Int) := by rw [IntWalk.i64_in _ (by omega)]; omega
                      clear hI1 hI2 hI3 ht hbad
                      go_wp2_with fail
                      go_at_call 77
                      refine (rCheck2 H9.out HT9.out HTT.out (HZ.out t (List.mem_of_getElem? HTT.out))).mono ?_
                      rintro en W99 ⟨rfl, h9, hb9⟩
                      obtain ⟨d0, d1, d2, d3, d4, d5⟩ := h9.cells
                      have f2 := h9.free 2
                      have HN9 := Lib.hid (DropI.next HG9.out hlt HTT.out HBD.out h9 hb9)
                      clear h9 hb9 d0 d1 d3 d4 d5 c0 c1 c2 c3 c4 c5
                      go_wp2_with fail
                      rw [show ((a + j + 1 : Nat) : Int) = (a : Int) + (j : Int) + 1 by omega] at HN9
                      go_roundg k'
                      case measure => omega
                      case rel => exact ⟨j + 1, _, _, _, by go_num, by omega, by omega, HN9⟩
                    · have HD := Lib.hid (HI.out.done (.inl (by omega)))
                      have k1 : ¬ (j : Int) < 2 := by omega
                      clear hI1 hI2 hI3
                      go_wp2_with fail
                      go_end0
                      exact ⟨rfl, HD.out.1, HD.out.2⟩
                  · subst hq
                    have HD := Lib.hid (HI.out.done (.inr (by decide)))
                    obtain ⟨c0, c1, c2, c3, c4, c5⟩ := hI1.cells
                    clear hI1 hI2 hI3
                    by_cases hlt : j < 2
                    · have k1 : (j : Int) < 2 := by omega
                      go_wp2_with fail
                      go_end0
                      exact ⟨rfl, HD.out.1, HD.out.2⟩
                    · have k1 : ¬ (j : Int) < 2 := by omega
                      go_wp2_with fail
                      go_end0
                      exact ⟨rfl, HD.out.1, HD.out.2⟩
        · obtain rfl : f.tok.text = nm := by rw [← HNM.out]; simp only [rNm, e1, e2, Bool.and_true, if_true]
          go_wp2_with fail
          go_at_call 125
          refine (rWord_any H0.out HT0.out 0 opn (by omega)).mono ?_
          rintro en W2 ⟨rfl, hb⟩
          rw [HQ.out.1]
          have H1 := Lib.hid (H0.out.bl hb)
          have HG1 := Lib.hid (gtrans HG0.out (gbl hb))
          have HT1 := Lib.hid (HTL.out _ HG1.out)
          clear hb
          cases b0
          · skip
            go_wp2_with fail
            go_at_call 125
            refine (rWord_any H1.out HT1.out 0 opn (by omega)).mono ?_
            rintro en W3 ⟨rfl, hb⟩
            rw [HQ.out.1]
            have H2 := Lib.hid (H1.out.bl hb)
            have HG2 := Lib.hid (gtrans HG1.out (gbl hb))
            have HT2 := Lib.hid (HTL.out _ HG2.out)
            clear hb
            go_wp2_with fail
            go_at_call 125
            refine (rWord_any H2.out HT2.out 0 f.tok.text (by omega)).mono ?_
            rintro en W4 ⟨rfl, hb⟩
            rw [HQ.out.2.2.2.1]
            have H3 := Lib.hid (H2.out.bl hb)
            have HG3 := Lib.hid (gtrans HG2.out (gbl hb))
            have HT3 := Lib.hid (HTL.out _ HG3.out)
            clear hb
            cases b3
            · skip
              have hNN : N = 0 := HN3.out
              subst hNN
              have HD := Lib.hid ((show DropI ts 0 a B r vt vw op wh w 0 a 0 wh W4 from ⟨H3.out, HG3.out, .inl ⟨rfl, rfl, rfl, rfl⟩⟩).done (.inl rfl))
              go_wp2_with fail
              go_loopg [8] 1 (fun k x wr => x = .int .i64 0 ∧ wr = W4)
              case atStart => exact ⟨rfl, rfl⟩
              case round =>
                obtain ⟨rfl, rfl⟩ := hrel
                go_wp2_with fail
                go_end0
                exact ⟨rfl, HD.out.1, HD.out.2⟩
            · skip
              go_wp2_with fail
              go_at_call 126
              refine (rStop_any H3.out HT3.out 1 (by omega)).mono ?_
              rintro en W5 ⟨rfl, hb⟩
              rw [HQ.out.2.2.2.2]
              have H4 := Lib.hid (H3.out.bl hb)
              have HG4 := Lib.hid (gtrans HG3.out (gbl hb))
              have HT4 := Lib.hid (HTL.out _ HG4.out)
              clear hb
              cases b4
              · skip
                have hNN : N = 0 := HN3.out
                subst hNN
                have HD := Lib.hid ((show DropI ts 0 a B r vt vw op wh w 0 a 0 wh W5 from ⟨H4.out, HG4.out, .inl ⟨rfl, rfl, rfl, rfl⟩⟩).done (.inl rfl))
                go_wp2_with fail
                go_loopg [8] 1 (fun k x wr => x = .int .i64 0 ∧ wr = W5)
                case atStart => exact ⟨rfl, rfl⟩
                case round =>
                  obtain ⟨rfl, rfl⟩ := hrel
                  go_wp2_with fail
                  go_end0
                  exact ⟨rfl, HD.out.1, HD.out.2⟩
              · skip
                have hNN : N = 1 := HN3.out
                subst hNN
                have HI0 := Lib.hid (show DropI ts 1 a B r vt vw op wh w 0 a 0 wh W5 from ⟨H4.out, HG4.out, .inl ⟨rfl, rfl, rfl, rfl⟩⟩)
                clear HN3 HQ
                go_wp2_with fail
                go_loopg [8] 2 (fun k x wr => ∃ (j : Nat) (at' e' wh' : Int), x = .int .i64 j ∧ j ≤ 1 ∧ 1 ≤ j + k ∧ Hid (DropI ts 1 a B r vt vw op wh w j at' e' wh' wr))
                case atStart => exact ⟨0, a, 0, wh, rfl, by omega, by omega, HI0⟩
                case round =>
                  obtain ⟨j, at', e', wh', rfl, hj1, hj2, HI⟩ := hrel
                  obtain ⟨hI1, hI2, hI3⟩ := HI.out
                  obtain ⟨q, hq⟩ | ⟨q, hq⟩ : (∃ q : Unit, e' = 0) ∨ (∃ q : Unit, e' = 14) := by rcases hI3 with h | h; exact .inl ⟨(), h.1⟩; exact .inr ⟨(), h.1⟩
                  · subst hq
                    have hI5 : at' = ((a + j : Nat) : Int) ∧ wh' = wh ∧ badAt ts 1 a = badAt ts (1 - j) (a + j) := by
                      rcases hI3 with h | h
                      · exact h.2
                      · exact absurd h.1 (by decide)
                    obtain ⟨rfl, rfl, hbad⟩ := hI5
                    obtain ⟨c0, c1, c2, c3, c4, c5⟩ := hI1.cells
                    by_cases hlt : j < 1
                    · obtain ⟨k', hkk⟩ : ∃ k', gk = k' + 1 := ⟨gk - 1, by omega⟩
                      subst hkk
                      obtain ⟨t, ht⟩ := HEX.out j hlt
                      have HT9 := Lib.hid (HTL.out _ hI2)
                      have H9 := Lib.hid hI1
                      have HG9 := Lib.hid hI2
                      have HTT := Lib.hid ht
                      have HBD := Lib.hid hbad
                      have k1 : (j : Int) < 1 := by omega
                      have hw1 : IntKind.i64.wrap (((a + j : Nat) : Int) + 1) = ((a + j + 1 : Nat) : Int) := by rw [IntWalk.i64_in _ (by omega)]; omega
                      clear hI1 hI2 hI3 ht hbad
                      go_wp2_with fail
                      go_at_call 77
                      refine (rCheck2 H9.out HT9.out HTT.out (HZ.out t (List.mem_of_getElem? HTT.out))).mono ?_
                      rintro en W99 ⟨rfl, h9, hb9⟩
                      obtain ⟨d0, d1, d2, d3, d4, d5⟩ := h9.cells
                      have f2 := h9.free 2
                      have HN9 := Lib.hid (DropI.next HG9.out hlt HTT.out HBD.out h9 hb9)
                      clear h9 hb9 d0 d1 d3 d4 d5 c0 c1 c2 c3 c4 c5
                      go_wp2_with fail
                      rw [show ((a + j + 1 : Nat) : Int) = (a : Int) + (j : Int) + 1 by omega] at HN9
                      go_roundg k'
                      case measure => omega
                      case rel => exact ⟨j + 1, _, _, _, by go_num, by omega, by omega, HN9⟩
                    · have HD := Lib.hid (HI.out.done (.inl (by omega)))
                      have k1 : ¬ (j : Int) < 1 := by omega
                      clear hI1 hI2 hI3
                      go_wp2_with fail
                      go_end0
                      exact ⟨rfl, HD.out.1, HD.out.2⟩
                  · subst hq
                    have HD := Lib.hid (HI.out.done (.inr (by decide)))
                    obtain ⟨c0, c1, c2, c3, c4, c5⟩ := hI1.cells
                    clear hI1 hI2 hI3
                    by_cases hlt : j < 1
                    · have k1 : (j : Int) < 1 := by omega
                      go_wp2_with fail
                      go_end0
                      exact ⟨rfl, HD.out.1, HD.out.2⟩
                    · have k1 : ¬ (j : Int) < 1 := by omega
                      go_wp2_with fail
                      go_end0
                      exact ⟨rfl, HD.out.1, HD.out.2⟩
          · skip
            go_wp2_with fail
            go_at_call 125
            refine (rWord_any H1.out HT1.out 1 f.tok.text (by omega)).mono ?_
            rintro en W3 ⟨rfl, hb⟩
            rw [HQ.out.2.1]
            have H2 := Lib.hid (H1.out.bl hb)
            have HG2 := Lib.hid (gtrans HG1.out (gbl hb))
            have HT2 := Lib.hid (HTL.out _ HG2.out)
            clear hb
            cases b1
            · skip
              go_wp2_with fail
              go_at_call 125
              refine (rWord_any H2.out HT2.out 0 opn (by omega)).mono ?_
              rintro en W4 ⟨rfl, hb⟩
              rw [HQ.out.1]
              have H3 := Lib.hid (H2.out.bl hb)
              have HG3 := Lib.hid (gtrans HG2.out (gbl hb))
              have HT3 := Lib.hid (HTL.out _ HG3.out)
              clear hb
              go_wp2_with fail
              go_at_call 126
              refine (rStop_any H3.out HT3.out 1 (by omega)).mono ?_
              rintro en W5 ⟨rfl, hb⟩
              rw [HQ.out.2.2.2.2]
              have H4 := Lib.hid (H3.out.bl hb)
              have HG4 := Lib.hid (gtrans HG3.out (gbl hb))
              have HT4 := Lib.hid (HTL.out _ HG4.out)
              clear hb
              cases b4
              · skip
                have hNN : N = 0 := HN3.out
                subst hNN
                have HD := Lib.hid ((show DropI ts 0 a B r vt vw op wh w 0 a 0 wh W5 from ⟨H4.out, HG4.out, .inl ⟨rfl, rfl, rfl, rfl⟩⟩).done (.inl rfl))
                go_wp2_with fail
                go_loopg [8] 1 (fun k x wr => x = .int .i64 0 ∧ wr = W5)
                case atStart => exact ⟨rfl, rfl⟩
                case round =>
                  obtain ⟨rfl, rfl⟩ := hrel
                  go_wp2_with fail
                  go_end0
                  exact ⟨rfl, HD.out.1, HD.out.2⟩
              · skip
                have hNN : N = 1 := HN3.out
                subst hNN
                have HI0 := Lib.hid (show DropI ts 1 a B r vt vw op wh w 0 a 0 wh W5 from ⟨H4.out, HG4.out, .inl ⟨rfl, rfl, rfl, rfl⟩⟩)
                clear HN3 HQ
                go_wp2_with fail
                go_loopg [8] 2 (fun k x wr => ∃ (j : Nat) (at' e' wh' : Int), x = .int .i64 j ∧ j ≤ 1 ∧ 1 ≤ j + k ∧ Hid (DropI ts 1 a B r vt vw op wh w j at' e' wh' wr))
                case atStart => exact ⟨0, a, 0, wh, rfl, by omega, by omega, HI0⟩
                case round =>
                  obtain ⟨j, at', e', wh', rfl, hj1, hj2, HI⟩ := hrel
                  obtain ⟨hI1, hI2, hI3⟩ := HI.out
                  obtain ⟨q, hq⟩ | ⟨q, hq⟩ : (∃ q : Unit, e' = 0) ∨ (∃ q : Unit, e' = 14) := by rcases hI3 with h | h; exact .inl ⟨(), h.1⟩; exact .inr ⟨(), h.1⟩
                  · subst hq
                    have hI5 : at' = ((a + j : Nat) : Int) ∧ wh' = wh ∧ badAt ts 1 a = badAt ts (1 - j) (a + j) := by
                      rcases hI3 with h | h
                      · exact h.2
                      · exact absurd h.1 (by decide)
                    obtain ⟨rfl, rfl, hbad⟩ := hI5
                    obtain ⟨c0, c1, c2, c3, c4, c5⟩ := hI1.cells
                    by_cases hlt : j < 1
                    · obtain ⟨k', hkk⟩ : ∃ k', gk = k' + 1 := ⟨gk - 1, by omega⟩
                      subst hkk
                      obtain ⟨t, ht⟩ := HEX.out j hlt
                      have HT9 := Lib.hid (HTL.out _ hI2)
                      have H9 := Lib.hid hI1
                      have HG9 := Lib.hid hI2
                      have HTT := Lib.hid ht
                      have HBD := Lib.hid hbad
                      have k1 : (j : Int) < 1 := by omega
                      have hw1 : IntKind.i64.wrap (((a + j : Nat) : Int) + 1) = ((a + j + 1 : Nat) : Int) := by rw [IntWalk.i64_in _ (by omega)]; omega
                      clear hI1 hI2 hI3 ht hbad
                      go_wp2_with fail
                      go_at_call 77
                      refine (rCheck2 H9.out HT9.out HTT.out (HZ.out t (List.mem_of_getElem? HTT.out))).mono ?_
                      rintro en W99 ⟨rfl, h9, hb9⟩
                      obtain ⟨d0, d1, d2, d3, d4, d5⟩ := h9.cells
                      have f2 := h9.free 2
                      have HN9 := Lib.hid (DropI.next HG9.out hlt HTT.out HBD.out h9 hb9)
                      clear h9 hb9 d0 d1 d3 d4 d5 c0 c1 c2 c3 c4 c5
                      go_wp2_with fail
                      rw [show ((a + j + 1 : Nat) : Int) = (a : Int) + (j : Int) + 1 by omega] at HN9
                      go_roundg k'
                      case measure => omega
                      case rel => exact ⟨j + 1, _, _, _, by go_num, by omega, by omega, HN9⟩
                    · have HD := Lib.hid (HI.out.done (.inl (by omega)))
                      have k1 : ¬ (j : Int) < 1 := by omega
                      clear hI1 hI2 hI3
                      go_wp2_with fail
                      go_end0
                      exact ⟨rfl, HD.out.1, HD.out.2⟩
                  · subst hq
                    have HD := Lib.hid (HI.out.done (.inr (by decide)))
                    obtain ⟨c0, c1, c2, c3, c4, c5⟩ := hI1.cells
                    clear hI1 hI2 hI3
                    by_cases hlt : j < 1
                    · have k1 : (j : Int) < 1 := by omega
                      go_wp2_with fail
                      go_end0
                      exact ⟨rfl, HD.out.1, HD.out.2⟩
                    · have k1 : ¬ (j : Int) < 1 := by omega
                      go_wp2_with fail
                      go_end0
                      exact ⟨rfl, HD.out.1, HD.out.2⟩
            · skip
              go_wp2_with fail
              go_at_call 126
              refine (rStop_any H2.out HT2.out 2 (by omega)).mono ?_
              rintro en W4 ⟨rfl, hb⟩
              rw [HQ.out.2.2.1]
              have H3 := Lib.hid (H2.out.bl hb)
              have HG3 := Lib.hid (gtrans HG2.out (gbl hb))
              have HT3 := Lib.hid (HTL.out _ HG3.out)
              clear hb
              cases b2
              · skip
                go_wp2_with fail
                go_at_call 125
                refine (rWord_any H3.out HT3.out 0 opn (by omega)).mono ?_
                rintro en W5 ⟨rfl, hb⟩
                rw [HQ.out.1]
                have H4 := Lib.hid (H3.out.bl hb)
                have HG4 := Lib.hid (gtrans HG3.out (gbl hb))
                have HT4 := Lib.hid (HTL.out _ HG4.out)
                clear hb
                go_wp2_with fail
                go_at_call 126
                refine (rStop_any H4.out HT4.out 1 (by omega)).mono ?_
                rintro en W6 ⟨rfl, hb⟩
                rw [HQ.out.2.2.2.2]
                have H5 := Lib.hid (H4.out.bl hb)
                have HG5 := Lib.hid (gtrans HG4.out (gbl hb))
                have HT5 := Lib.hid (HTL.out _ HG5.out)
                clear hb
                cases b4
                · skip
                  have hNN : N = 0 := HN3.out
                  subst hNN
                  have HD := Lib.hid ((show DropI ts 0 a B r vt vw op wh w 0 a 0 wh W6 from ⟨H5.out, HG5.out, .inl ⟨rfl, rfl, rfl, rfl⟩⟩).done (.inl rfl))
                  go_wp2_with fail
                  go_loopg [8] 1 (fun k x wr => x = .int .i64 0 ∧ wr = W6)
                  case atStart => exact ⟨rfl, rfl⟩
                  case round =>
                    obtain ⟨rfl, rfl⟩ := hrel
                    go_wp2_with fail
                    go_end0
                    exact ⟨rfl, HD.out.1, HD.out.2⟩
                · skip
                  have hNN : N = 1 := HN3.out
                  subst hNN
                  have HI0 := Lib.hid (show DropI ts 1 a B r vt vw op wh w 0 a 0 wh W6 from ⟨H5.out, HG5.out, .inl ⟨rfl, rfl, rfl, rfl⟩⟩)
                  clear HN3 HQ
                  go_wp2_with fail
                  go_loopg [8] 2 (fun k x wr => ∃ (j : Nat) (at' e' wh' : Int), x = .int .i64 j ∧ j ≤ 1 ∧ 1 ≤ j + k ∧ Hid (DropI ts 1 a B r vt vw op wh w j at' e' wh' wr))
                  case atStart => exact ⟨0, a, 0, wh, rfl, by omega, by omega, HI0⟩
                  case round =>
                    obtain ⟨j, at', e', wh', rfl, hj1, hj2, HI⟩ := hrel
                    obtain ⟨hI1, hI2, hI3⟩ := HI.out
                    obtain ⟨q, hq⟩ | ⟨q, hq⟩ : (∃ q : Unit, e' = 0) ∨ (∃ q : Unit, e' = 14) := by rcases hI3 with h | h; exact .inl ⟨(), h.1⟩; exact .inr ⟨(), h.1⟩
                    · subst hq
                      have hI5 : at' = ((a + j : Nat) : Int) ∧ wh' = wh ∧ badAt ts 1 a = badAt ts (1 - j) (a + j) := by
                        rcases hI3 with h | h
                        · exact h.2
                        · exact absurd h.1 (by decide)
                      obtain ⟨rfl, rfl, hbad⟩ := hI5
                      obtain ⟨c0, c1, c2, c3, c4, c5⟩ := hI1.cells
                      by_cases hlt : j < 1
                      · obtain ⟨k', hkk⟩ : ∃ k', gk = k' + 1 := ⟨gk - 1, by omega⟩
                        subst hkk
                        obtain ⟨t, ht⟩ := HEX.out j hlt
                        have HT9 := Lib.hid (HTL.out _ hI2)
                        have H9 := Lib.hid hI1
                        have HG9 := Lib.hid hI2
                        have HTT := Lib.hid ht
                        have HBD := Lib.hid hbad
                        have k1 : (j : Int) < 1 := by omega
                        have hw1 : IntKind.i64.wrap (((a + j : Nat) : Int) + 1) = ((a + j + 1 : Nat) : Int) := by rw [IntWalk.i64_in _ (by omega)]; omega
                        clear hI1 hI2 hI3 ht hbad
                        go_wp2_with fail
                        go_at_call 77
                        refine (rCheck2 H9.out HT9.out HTT.out (HZ.out t (List.mem_of_getElem? HTT.out))).mono ?_
                        rintro en W99 ⟨rfl, h9, hb9⟩
                        obtain ⟨d0, d1, d2, d3, d4, d5⟩ := h9.cells
                        have f2 := h9.free 2
                        have HN9 := Lib.hid (DropI.next HG9.out hlt HTT.out HBD.out h9 hb9)
                        clear h9 hb9 d0 d1 d3 d4 d5 c0 c1 c2 c3 c4 c5
                        go_wp2_with fail
                        rw [show ((a + j + 1 : Nat) : Int) = (a : Int) + (j : Int) + 1 by omega] at HN9
                        go_roundg k'
                        case measure => omega
                        case rel => exact ⟨j + 1, _, _, _, by go_num, by omega, by omega, HN9⟩
                      · have HD := Lib.hid (HI.out.done (.inl (by omega)))
                        have k1 : ¬ (j : Int) < 1 := by omega
                        clear hI1 hI2 hI3
                        go_wp2_with fail
                        go_end0
                        exact ⟨rfl, HD.out.1, HD.out.2⟩
                    · subst hq
                      have HD := Lib.hid (HI.out.done (.inr (by decide)))
                      obtain ⟨c0, c1, c2, c3, c4, c5⟩ := hI1.cells
                      clear hI1 hI2 hI3
                      by_cases hlt : j < 1
                      · have k1 : (j : Int) < 1 := by omega
                        go_wp2_with fail
                        go_end0
                        exact ⟨rfl, HD.out.1, HD.out.2⟩
                      · have k1 : ¬ (j : Int) < 1 := by omega
                        go_wp2_with fail
                        go_end0
                        exact ⟨rfl, HD.out.1, HD.out.2⟩
              · skip
                have hNN : N = 2 := HN3.out
                subst hNN
                have HI0 := Lib.hid (show DropI ts 2 a B r vt vw op wh w 0 a 0 wh W4 from ⟨H3.out, HG3.out, .inl ⟨rfl, rfl, rfl, rfl⟩⟩)
                clear HN3 HQ
                go_wp2_with fail
                go_loopg [8] 2 (fun k x wr => ∃ (j : Nat) (at' e' wh' : Int), x = .int .i64 j ∧ j ≤ 2 ∧ 2 ≤ j + k ∧ Hid (DropI ts 2 a B r vt vw op wh w j at' e' wh' wr))
                case atStart => exact ⟨0, a, 0, wh, rfl, by omega, by omega, HI0⟩
                case round =>
                  obtain ⟨j, at', e', wh', rfl, hj1, hj2, HI⟩ := hrel
                  obtain ⟨hI1, hI2, hI3⟩ := HI.out
                  obtain ⟨q, hq⟩ | ⟨q, hq⟩ : (∃ q : Unit, e' = 0) ∨ (∃ q : Unit, e' = 14) := by rcases hI3 with h | h; exact .inl ⟨(), h.1⟩; exact .inr ⟨(), h.1⟩
                  · subst hq
                    have hI5 : at' = ((a + j : Nat) : Int) ∧ wh' = wh ∧ badAt ts 2 a = badAt ts (2 - j) (a + j) := by
                      rcases hI3 with h | h
                      · exact h.2
                      · exact absurd h.1 (by decide)
                    obtain ⟨rfl, rfl, hbad⟩ := hI5
                    obtain ⟨c0, c1, c2, c3, c4, c5⟩ := hI1.cells
                    by_cases hlt : j < 2
                    · obtain ⟨k', hkk⟩ : ∃ k', gk = k' + 1 := ⟨gk - 1, by omega⟩
                      subst hkk
                      obtain ⟨t, ht⟩ := HEX.out j hlt
                      have HT9 := Lib.hid (HTL.out _ hI2)
                      have H9 := Lib.hid hI1
                      have HG9 := Lib.hid hI2
                      have HTT := Lib.hid ht
                      have HBD := Lib.hid hbad
                      have k1 : (j : Int) < 2 := by omega
                      have hw1 : IntKind.i64.wrap (((a + j : Nat) : Int) + 1) = ((a + j + 1 : Nat) : Int) := by rw [IntWalk.i64_in _ (by omega)]; omega
                      clear hI1 hI2 hI3 ht hbad
                      go_wp2_with fail
                      go_at_call 77
                      refine (rCheck2 H9.out HT9.out HTT.out (HZ.out t (List.mem_of_getElem? HTT.out))).mono ?_
                      rintro en W99 ⟨rfl, h9, hb9⟩
                      obtain ⟨d0, d1, d2, d3, d4, d5⟩ := h9.cells
                      have f2 := h9.free 2
                      have HN9 := Lib.hid (DropI.next HG9.out hlt HTT.out HBD.out h9 hb9)
                      clear h9 hb9 d0 d1 d3 d4 d5 c0 c1 c2 c3 c4 c5
                      go_wp2_with fail
                      rw [show ((a + j + 1 : Nat) : Int) = (a : Int) + (j : Int) + 1 by omega] at HN9
                      go_roundg k'
                      case measure => omega
                      case rel => exact ⟨j + 1, _, _, _, by go_num, by omega, by omega, HN9⟩
                    · have HD := Lib.hid (HI.out.done (.inl (by omega)))
                      have k1 : ¬ (j : Int) < 2 := by omega
                      clear hI1 hI2 hI3
                      go_wp2_with fail
                      go_end0
                      exact ⟨rfl, HD.out.1, HD.out.2⟩
                  · subst hq
                    have HD := Lib.hid (HI.out.done (.inr (by decide)))
                    obtain ⟨c0, c1, c2, c3, c4, c5⟩ := hI1.cells
                    clear hI1 hI2 hI3
                    by_cases hlt : j < 2
                    · have k1 : (j : Int) < 2 := by omega
                      go_wp2_with fail
                      go_end0
                      exact ⟨rfl, HD.out.1, HD.out.2⟩
                    · have k1 : ¬ (j : Int) < 2 := by omega
                      go_wp2_with fail
                      go_end0
                      exact ⟨rfl, HD.out.1, HD.out.2⟩
end
end Go.Proofs.YtopbmndjnjnmcaaGreatDoor
