/- Package fragment: the reference's small functions of reading (skerryref02: isName, bracket, closes, fits, fail, check, word, stop) and its reader in memory: for FragReads. -/
import Derived.Test.YtopbmndjnjnmcaaGreatDoorRT
namespace Go.Proofs.YtopbmndjnjnmcaaGreatDoor
open Go.RowKit Lx
/- (P23) -/
attribute [local go_sem] Oper.semAt_some
set_option maxRecDepth 100000 in
theorem rIsName_any (t : Tok) (nm : ByteArray) (w : World) : Calls Tryz.prog 107 #[TokV t, .string nm] w fun e W => e = .returned (.bool (isNm t nm)) ∧ Below w.heap.size w W := by
  have hb := (Below.refl w.heap.size w).alloc (Nat.le_refl _) (.cells (tokC t) 50)
  unfold isNm
  go_enter Tryz.func107, Tryz.ntmps107
  unfold TokV tokC
  cases h1 : (t.kind == 1)
  · go_wp2_with fail
    go_ret
    exact ⟨rfl, hb⟩
  · go_wp2_with fail
    go_ret
    exact ⟨rfl, hb⟩
set_option maxRecDepth 100000 in
theorem rBracket_any (op : ByteArray) (w : World) : Calls Tryz.prog 108 #[.string op] w fun e W => e = .returned (.string (rBr op)) ∧ Below w.heap.size w W := by
  have hb := Below.refl w.heap.size w
  unfold rBr
  go_enter Tryz.func108, Tryz.ntmps108
  cases h1 : (op.toList == [40])
  · cases h2 : (op.toList == [91])
    · cases h3 : (op.toList == [123])
      · go_wp2_with fail
        go_ret
        exact ⟨rfl, hb⟩
      · go_wp2_with fail
        go_ret
        exact ⟨rfl, hb⟩
    · go_wp2_with fail
      go_ret
      exact ⟨rfl, hb⟩
  · go_wp2_with fail
    go_ret
    exact ⟨rfl, hb⟩
/- (P24) -/
theorem box_cells (t : Tok) (w W : World) (h : Below (w.alloc (.cells (tokC t) 50)).heap.size (w.alloc (.cells (tokC t) 50)) W) :
    W.cell? ⟨w.heap.size, 0, none⟩ = some (.int .i64 t.kind) ∧ W.cell? ⟨w.heap.size, 1, none⟩ = some (.int .i64 t.num) ∧ W.cell? ⟨w.heap.size, 2, none⟩ = some (.string t.text) ∧ W.cell? ⟨w.heap.size, 3, none⟩ = some (.int .i64 t.at_) ∧ W.cell? ⟨w.heap.size, 4, none⟩ = some (.int .i64 t.mark) := by
  have hb := (h.block w.heap.size (by rw [World.size_alloc]; omega)).trans (heap_alloc_new w _)
  exact ⟨cell_of_row W _ 0 _ _ _ hb, cell_of_row W _ 1 _ _ _ hb, cell_of_row W _ 2 _ _ _ hb, cell_of_row W _ 3 _ _ _ hb, cell_of_row W _ 4 _ _ _ hb⟩
set_option maxRecDepth 100000 in
theorem rCloses_any (t : Tok) (w : World) : Calls Tryz.prog 78 #[TokV t] w fun e W => e = .returned (.bool (rCl t)) ∧ Below w.heap.size w W := by
  have hb0 := (Below.refl w.heap.size w).alloc (Nat.le_refl _) (.cells (tokC t) 50)
  unfold rCl isSg
  go_enter Tryz.func78, Tryz.ntmps78
  unfold TokV tokC
  go_wp2_with fail
  go_at_call 107
  refine (rIsName_any t tEnd _).mono ?_
  rintro e W1 ⟨rfl, hb⟩
  obtain ⟨m0, m1, m2, m3, m4⟩ := box_cells t w W1 hb
  have hb1 := hb0.trans (hb.mono hb0.size)
  clear hb
  cases h1 : isNm t tEnd
  · cases h5 : (t.kind == 5)
    · go_wp2_with fail
      go_ret
      exact ⟨by first | rfl | (simp only [h1]; rfl) | (simp only [h1, h5]; rfl) | (simp only [h1, h5, h6]; rfl) | (simp only [h1, h5, h6, h7]; rfl) | (simp only [h1, h5, h6, h7, Bool.false_or, Bool.false_and, Bool.true_and]), hb1⟩
    · cases h6 : (t.text.toList == [41])
      · cases h7 : (t.text.toList == [93])
        · go_wp2_with fail
          go_ret
          exact ⟨by first | rfl | (simp only [h1]; rfl) | (simp only [h1, h5]; rfl) | (simp only [h1, h5, h6]; rfl) | (simp only [h1, h5, h6, h7]; rfl) | (simp only [h1, h5, h6, h7, Bool.false_or, Bool.false_and, Bool.true_and]), hb1⟩
        · go_wp2_with fail
          go_ret
          exact ⟨by first | rfl | (simp only [h1]; rfl) | (simp only [h1, h5]; rfl) | (simp only [h1, h5, h6]; rfl) | (simp only [h1, h5, h6, h7]; rfl) | (simp only [h1, h5, h6, h7, Bool.false_or, Bool.false_and, Bool.true_and]), hb1⟩
      · go_wp2_with fail
        go_ret
        exact ⟨by first | rfl | (simp only [h1]; rfl) | (simp only [h1, h5]; rfl) | (simp only [h1, h5, h6]; rfl) | (simp only [h1, h5, h6, h7]; rfl) | (simp only [h1, h5, h6, h7, Bool.false_or, Bool.false_and, Bool.true_and]), hb1⟩
  · go_wp2_with fail
    go_ret
    exact ⟨by first | rfl | (simp only [h1]; rfl) | (simp only [h1, h5]; rfl) | (simp only [h1, h5, h6]; rfl) | (simp only [h1, h5, h6, h7]; rfl) | (simp only [h1, h5, h6, h7, Bool.false_or, Bool.false_and, Bool.true_and]), hb1⟩
set_option maxRecDepth 100000 in
theorem rFits_any (t : Tok) (op : ByteArray) (w : World) : Calls Tryz.prog 79 #[TokV t, .string op] w fun e W => e = .returned (.bool (rFits t op)) ∧ Below w.heap.size w W := by
  have hb0 := (Below.refl w.heap.size w).alloc (Nat.le_refl _) (.cells (tokC t) 50)
  unfold rFits
  go_enter Tryz.func79, Tryz.ntmps79
  unfold TokV tokC
  go_wp2_with fail
  go_at_call 108
  refine (rBracket_any op _).mono ?_
  rintro e W1 ⟨rfl, hb⟩
  obtain ⟨m0, m1, m2, m3, m4⟩ := box_cells t w W1 hb
  have hb1 := hb0.trans (hb.mono hb0.size)
  clear hb
  obtain ⟨br, hbr⟩ : ∃ br, rBr op = br := ⟨_, rfl⟩
  rw [hbr]
  cases h1 : (br.toList == [])
  · cases h5 : (t.kind == 5)
    · go_wp2_with fail
      go_ret
      exact ⟨by first | rfl | (simp only [hbr, h1, h5, bne]; rfl) | (simp only [hbr, h1, h5, bne, Bool.false_and, Bool.false_or, Bool.true_and, Bool.not_false]), hb1⟩
    · go_wp2_with fail
      go_ret
      exact ⟨by first | rfl | (simp only [hbr, h1, h5, bne]; rfl) | (simp only [hbr, h1, h5, bne, Bool.false_and, Bool.false_or, Bool.true_and, Bool.not_false]), hb1⟩
  · go_wp2_with fail
    go_at_call 107
    refine (rIsName_any t tEnd _).mono ?_
    rintro e W2 ⟨rfl, hb⟩
    have hb2 := hb1.trans (hb.mono hb1.size)
    clear hb
    cases h2 : isNm t tEnd
    · go_wp2_with fail
      go_ret
      exact ⟨by first | rfl | (simp only [hbr, h1, h2, bne]; rfl), hb2⟩
    · go_wp2_with fail
      go_ret
      exact ⟨by first | rfl | (simp only [hbr, h1, h2, bne]; rfl), hb2⟩
/- (P25) -/
/-- The reference's reader in memory. -/
structure RdR (B r : Nat) (vt vw : Value) (at_ op e wh : Int) (W : World) : Prop where
  base : B ≤ r
  row : W.heap[r]? = some (.cells #[vt, vw, .int .i64 at_, .int .i64 op, .int .i64 e, .int .i64 wh] 76 (0, 0))
section
variable {B r : Nat} {vt vw : Value} {at_ op e wh : Int} {w W : World}
theorem RdR.cells (h : RdR B r vt vw at_ op e wh W) : W.cell? ⟨r, 0, none⟩ = some vt ∧ W.cell? ⟨r, 1, none⟩ = some vw ∧ W.cell? ⟨r, 2, none⟩ = some (.int .i64 at_) ∧ W.cell? ⟨r, 3, none⟩ = some (.int .i64 op) ∧ W.cell? ⟨r, 4, none⟩ = some (.int .i64 e) ∧ W.cell? ⟨r, 5, none⟩ = some (.int .i64 wh) := by
  refine ⟨?_, ?_, ?_, ?_, ?_, ?_⟩ <;> (rw [cell_of_row _ _ _ _ _ _ h.row]; rfl)
theorem RdR.free (h : RdR B r vt vw at_ op e wh W) (j : Nat) : W.frozen? ⟨r, j, none⟩ = false := by
  unfold World.frozen?
  simp [h.row]
theorem RdR.lt (h : RdR B r vt vw at_ op e wh W) : r < W.heap.size := by
  rcases Nat.lt_or_ge r W.heap.size with hl | hl
  · exact hl
  · have := h.row
    rw [Array.getElem?_eq_none hl] at this; cases this
theorem RdR.bl (h : RdR B r vt vw at_ op e wh W) {W' : World} (hb : Below W.heap.size W W') : RdR B r vt vw at_ op e wh W' := ⟨h.base, (hb.block r h.lt).trans h.row⟩
theorem RdR.setAt (h : RdR B r vt vw at_ op e wh W) (x : Int) : RdR B r vt vw x op e wh (W.setCell ⟨r, 2, none⟩ (.int .i64 x)) := ⟨h.base, heap_set' W r 2 _ h.row⟩
theorem RdR.setOp (h : RdR B r vt vw at_ op e wh W) (x : Int) : RdR B r vt vw at_ x e wh (W.setCell ⟨r, 3, none⟩ (.int .i64 x)) := ⟨h.base, heap_set' W r 3 _ h.row⟩
theorem RdR.setE (h : RdR B r vt vw at_ op e wh W) (x : Int) : RdR B r vt vw at_ op x wh (W.setCell ⟨r, 4, none⟩ (.int .i64 x)) := ⟨h.base, heap_set' W r 4 _ h.row⟩
theorem RdR.setWh (h : RdR B r vt vw at_ op e wh W) (x : Int) : RdR B r vt vw at_ op e x (W.setCell ⟨r, 5, none⟩ (.int .i64 x)) := ⟨h.base, heap_set' W r 5 _ h.row⟩
set_option maxRecDepth 100000 in
theorem rFail_any (h : RdR B r vt vw at_ op e wh w) (er i : Int) : Calls Tryz.prog 80 #[.pointer (some ⟨r, 0, none⟩), .int .i64 er, .int .i64 i] w fun en W => en = .returned (.tuple #[]) ∧ RdR B r vt vw at_ op (if (e == 0) = true then er else e) (if (e == 0) = true then i else wh) W ∧ Below B w W := by
  obtain ⟨c0, c1, c2, c3, c4, c5⟩ := h.cells
  have f4 := h.free 4
  have hs := h.setE er
  have hs2 := hs.setWh i
  have f5 := hs.free 5
  have hb := ((Below.refl B w).setCell (p := ⟨r, 4, none⟩) h.base (.int .i64 er))
  have hb2 := hb.setCell (p := ⟨r, 5, none⟩) h.base (.int .i64 i)
  have HS := Lib.hid hs2
  have HB := Lib.hid hb2
  have H := Lib.hid h
  obtain ⟨_, _, _, _, _, d5⟩ := hs.cells
  clear h hs hs2 hb hb2 c0 c1 c2 c3 c5
  go_enter Tryz.func80, Tryz.ntmps80
  cases he : (e == 0)
  · go_wp2_with fail
    go_end0
    exact ⟨rfl, H.out, Below.refl _ _⟩
  · go_wp2_with fail
    go_end0
    exact ⟨rfl, HS.out, HB.out⟩
end
/- (P26) -/
def ckE (t : Tok) : Int := if tokOk t = true then 0 else 14
def ckW (t : Tok) (i wh : Int) : Int := if tokOk t = true then wh else i
section
variable {B r : Nat} {vt vw : Value} {at_ op wh : Int} {w W : World} {ts : List Tok}
set_option maxRecDepth 100000 in
theorem rCheck_any (h : RdR B r vt vw at_ op 0 wh w) (hr : TokRead w vt ts) {i : Nat} {t : Tok} (ht : ts[i]? = some t) (hz : t.text.size ≤ maxLen) :
    Calls Tryz.prog 77 #[.pointer (some ⟨r, 0, none⟩), .int .i64 i] w fun en W => en = .returned (.tuple #[]) ∧ RdR B r vt vw at_ op (ckE t) (ckW t i wh) W ∧ Below B w W := by
  obtain ⟨c0, c1, c2, c3, c4, c5⟩ := h.cells
  obtain ⟨a, c, rfl, ⟨hl1, hl2⟩, hk⟩ := hr
  obtain ⟨g, o, rfl, hg, m0, m1, m2, m3, m4⟩ := hk i t ht
  have hi : i < ts.length := (List.getElem?_eq_some_iff.1 ht).1
  have H := Lib.hid h
  have HB : Hid (B ≤ w.heap.size) := Lib.hid (by have := h.base; have := h.lt; omega)
  have HK := Lib.hid hk
  clear h hk c1 c2 c3 c4 c5
  unfold maxLen at hl1
  go_enter Tryz.func77, Tryz.ntmps77
  go_wp2_with fail
  go_at_call 87
  refine (refCheck_tok t hz _).mono ?_
  rintro en W1 ⟨rfl, hb⟩
  have H1 := Lib.hid (H.out.bl hb)
  have HB1 := Lib.hid (hb.mono HB.out)
  clear hb
  cases hq : tokOk t
  · have e1 : ckE t = 14 := by unfold ckE; rw [hq]; rfl
    have e2 : ckW t i wh = i := by unfold ckW; rw [hq]; rfl
    rw [tokEr_no hq]
    go_wp2_with fail
    go_at_call 80
    refine (rFail_any H1.out 14 i).mono ?_
    rintro en W2 ⟨rfl, h2, hb2⟩
    have H2 := Lib.hid (show RdR B r _ vw at_ op 14 i W2 from h2)
    have HB2 := Lib.hid (HB1.out.trans hb2)
    clear h2 hb2
    go_wp2_with fail
    go_end0
    exact ⟨rfl, by rw [e1, e2]; exact H2.out, HB2.out⟩
  · have e1 : ckE t = 0 := by unfold ckE; rw [hq]; rfl
    have e2 : ckW t i wh = wh := by unfold ckW; rw [hq]; rfl
    rw [tokEr_ok hq]
    go_wp2_with fail
    go_end0
    exact ⟨rfl, by rw [e1, e2]; exact H1.out, HB1.out⟩
end
/- (P27) -/
section
variable {B r : Nat} {vt vw : Value} {op e wh : Int} {w W : World} {ts : List Tok}
set_option maxRecDepth 100000 in
theorem rWord_any {a : Nat} (h : RdR B r vt vw a op e wh w) (hr : TokRead w vt ts) (n : Nat) (x : ByteArray) (ha : a + n < 9000000000000000000) :
    Calls Tryz.prog 125 #[.pointer (some ⟨r, 0, none⟩), .int .i64 n, .string x] w fun en W => en = .returned (.bool (rWord ts (a + n) x)) ∧ Below w.heap.size w W := by
  obtain ⟨c0, c1, c2, c3, c4, c5⟩ := h.cells
  have lr := h.lt
  clear h c1 c3 c4 c5
  cases hx : (x.toList == [])
  case true =>
    have e1 : rWord ts (a + n) x = false := by unfold rWord; rw [bne, hx]; rfl
    rw [e1]
    obtain ⟨a', c, rfl, ⟨hl1, hl2⟩, hk⟩ := hr
    unfold maxLen at hl1
    go_enter Tryz.func125, Tryz.ntmps125
    go_wp2_with fail
    go_quiet (fail)
    go_wp2_with fail
    go_ret
    exact ⟨rfl, below_drewN (Below.refl _ _) _⟩
  have hxn : x.toList ≠ [] := by intro h; rw [h] at hx; simp at hx
  by_cases hl : a + n < ts.length
  case neg =>
    have e1 : rWord ts (a + n) x = false := by unfold rWord; rw [List.getElem?_eq_none (by omega)]; simp
    rw [e1]
    obtain ⟨a', c, rfl, ⟨hl1, hl2⟩, hk⟩ := hr
    unfold maxLen at hl1
    have hw : IntKind.i64.wrap ((a : Int) + (n : Int)) = ((a + n : Nat) : Int) := by rw [IntWalk.i64_in _ (by omega)]; omega
    have hd : decide ((a : Int) + (n : Int) < (ts.length : Int)) = false := decide_eq_false (by omega)
    go_enter Tryz.func125, Tryz.ntmps125
    go_wp2_with fail
    go_quiet (fail)
    go_wp2_with fail
    go_ret
    exact ⟨rfl, below_drewN (Below.refl _ _) _⟩
  obtain ⟨t, ht⟩ : ∃ t, ts[a + n]? = some t := ⟨_, List.getElem?_eq_getElem hl⟩
  have e1 : rWord ts (a + n) x = isNm t x := by unfold rWord; rw [ht, bne, hx]; rfl
  rw [e1]
  obtain ⟨a', c, rfl, ⟨hl1, hl2⟩, hk⟩ := hr
  unfold maxLen at hl1
  obtain ⟨g, o, rfl, hg, m0, m1, m2, m3, m4⟩ := hk _ t ht
  obtain ⟨i, hi⟩ : ∃ i, a + n = i := ⟨_, rfl⟩
  rw [hi] at hl m0 m1 m2 m3 m4
  have hw : IntKind.i64.wrap ((a : Int) + (n : Int)) = (i : Int) := by rw [IntWalk.i64_in _ (by omega)]; omega
  have hd : decide ((i : Int) < (ts.length : Int)) = true := decide_eq_true (by omega)
  clear hk ht e1
  obtain ⟨b, hb⟩ : ∃ b, isNm t x = b := ⟨_, rfl⟩
  go_enter Tryz.func125, Tryz.ntmps125
  go_wp2_with fail
  go_region_held3 (fun w' => w'.cell? ⟨r, 0, none⟩ = some (.slice (some ⟨g, o, none⟩) ts.length c) ∧ w'.cell? ⟨r, 2, none⟩ = some (.int .i64 a) ∧ w'.cell? ⟨g, o + i * 5, none⟩ = some (.int .i64 t.kind) ∧ w'.cell? ⟨g, o + i * 5 + 1, none⟩ = some (.int .i64 t.num) ∧ w'.cell? ⟨g, o + i * 5 + 2, none⟩ = some (.string t.text) ∧ w'.cell? ⟨g, o + i * 5 + 3, none⟩ = some (.int .i64 t.at_) ∧ w'.cell? ⟨g, o + i * 5 + 4, none⟩ = some (.int .i64 t.mark)) (first | go_keep)
    (first
      | (go_at_call 107; refine (rIsName_any t x _).mono ?_; rintro e w9 ⟨rfl, hb9⟩; have q0 : w9.cell? ⟨r, 0, none⟩ = _ := (hb9.cell (p := ⟨r, 0, none⟩) lr).trans c0; have q1 : w9.cell? ⟨r, 2, none⟩ = _ := (hb9.cell (p := ⟨r, 2, none⟩) lr).trans c2; have p0 : w9.cell? ⟨g, o + i * 5, none⟩ = _ := (hb9.cell (p := ⟨g, o + i * 5, none⟩) hg).trans m0; have p1 : w9.cell? ⟨g, o + i * 5 + 1, none⟩ = _ := (hb9.cell (p := ⟨g, o + i * 5 + 1, none⟩) hg).trans m1; have p2 : w9.cell? ⟨g, o + i * 5 + 2, none⟩ = _ := (hb9.cell (p := ⟨g, o + i * 5 + 2, none⟩) hg).trans m2; have p3 : w9.cell? ⟨g, o + i * 5 + 3, none⟩ = _ := (hb9.cell (p := ⟨g, o + i * 5 + 3, none⟩) hg).trans m3; have p4 : w9.cell? ⟨g, o + i * 5 + 4, none⟩ = _ := (hb9.cell (p := ⟨g, o + i * 5 + 4, none⟩) hg).trans m4))
  go_wp2_with fail
  go_ret
  refine ⟨by rw [hb]; rfl, ?_⟩
  exact (Below.refl w.heap.size w).drew.trans hb9
end
/- (P28) -/
theorem stop_ref (t : Tok) : isStop t = (rCl t || ((t.kind == 5) && ((t.text.toList == [59]) || (t.text.toList == [44])))) := by
  unfold isStop rCl isSg
  cases t.kind == 5 <;> cases isNm t tEnd <;> cases t.text.toList == [59] <;> cases t.text.toList == [44] <;> cases t.text.toList == [41] <;> cases t.text.toList == [93] <;> cases t.text.toList == [125] <;> rfl
section
variable {B r : Nat} {vt vw : Value} {op e wh : Int} {w W : World} {ts : List Tok}
set_option maxRecDepth 100000 in
theorem rStop_any {a : Nat} (h : RdR B r vt vw a op e wh w) (hr : TokRead w vt ts) (n : Nat) (ha : a + n < 9000000000000000000) :
    Calls Tryz.prog 126 #[.pointer (some ⟨r, 0, none⟩), .int .i64 n] w fun en W => en = .returned (.bool (stopsAt ts (a + n))) ∧ Below w.heap.size w W := by
  obtain ⟨c0, c1, c2, c3, c4, c5⟩ := h.cells
  have lr := h.lt
  clear h c1 c3 c4 c5
  by_cases hl : a + n < ts.length
  case neg =>
    have e1 : stopsAt ts (a + n) = true := by unfold stopsAt; rw [List.getElem?_eq_none (by omega)]
    rw [e1]
    obtain ⟨a', c, rfl, ⟨hl1, hl2⟩, hk⟩ := hr
    unfold maxLen at hl1
    have hw : IntKind.i64.wrap ((a : Int) + (n : Int)) = ((a + n : Nat) : Int) := by rw [IntWalk.i64_in _ (by omega)]; omega
    have hd : decide ((ts.length : Int) ≤ ((a + n : Nat) : Int)) = true := decide_eq_true (by omega)
    have hd2 : decide ((ts.length : Int) ≤ (a : Int) + (n : Int)) = true := decide_eq_true (by omega)
    go_enter Tryz.func126, Tryz.ntmps126
    go_wp2_with fail
    go_quiet (fail)
    go_wp2_with fail
    go_ret
    exact ⟨rfl, below_drewN (Below.refl _ _) _⟩
  obtain ⟨t, ht⟩ : ∃ t, ts[a + n]? = some t := ⟨_, List.getElem?_eq_getElem hl⟩
  have e1 : stopsAt ts (a + n) = isStop t := by unfold stopsAt; rw [ht]
  rw [e1, stop_ref]
  obtain ⟨a', c, rfl, ⟨hl1, hl2⟩, hk⟩ := hr
  unfold maxLen at hl1
  obtain ⟨g, o, rfl, hg, m0, m1, m2, m3, m4⟩ := hk _ t ht
  obtain ⟨i, hi⟩ : ∃ i, a + n = i := ⟨_, rfl⟩
  rw [hi] at hl m0 m1 m2 m3 m4
  have hw : IntKind.i64.wrap ((a : Int) + (n : Int)) = (i : Int) := by rw [IntWalk.i64_in _ (by omega)]; omega
  have hd : decide ((ts.length : Int) ≤ (i : Int)) = false := decide_eq_false (by omega)
  clear hk ht e1
  go_enter Tryz.func126, Tryz.ntmps126
  go_wp2_with fail
  go_quiet (fail)
  obtain ⟨wq, hwq⟩ : ∃ wq, w.drewN nq = wq := ⟨_, rfl⟩
  have hsz : wq.heap.size = w.heap.size := by rw [← hwq]; rfl
  have hbq : Below w.heap.size w wq := by rw [← hwq]; exact below_drewN (Below.refl _ _) _
  have b0 : wq.cell? ⟨r, 0, none⟩ = _ := (by rw [← hwq]; exact c0 : wq.cell? ⟨r, 0, none⟩ = some (.slice (some ⟨g, o, none⟩) ts.length c))
  have b2 : wq.cell? ⟨r, 2, none⟩ = some (.int .i64 a) := by rw [← hwq]; exact c2
  have k0 : wq.cell? ⟨g, o + i * 5, none⟩ = some (.int .i64 t.kind) := by rw [← hwq]; exact m0
  have k1 : wq.cell? ⟨g, o + i * 5 + 1, none⟩ = some (.int .i64 t.num) := by rw [← hwq]; exact m1
  have k2 : wq.cell? ⟨g, o + i * 5 + 2, none⟩ = some (.string t.text) := by rw [← hwq]; exact m2
  have k3 : wq.cell? ⟨g, o + i * 5 + 3, none⟩ = some (.int .i64 t.at_) := by rw [← hwq]; exact m3
  have k4 : wq.cell? ⟨g, o + i * 5 + 4, none⟩ = some (.int .i64 t.mark) := by rw [← hwq]; exact m4
  have hg2 : g < wq.heap.size := by rw [hsz]; exact hg
  rw [hwq]
  clear hwq c0 c2 m0 m1 m2 m3 m4
  rw [← hsz] at lr
  have HSZ := Lib.hid hsz
  clear hsz hg
  have hz := ((Below.refl wq.heap.size wq).alloc (Nat.le_refl _) (.cells #[.int .i64 0, .int .i64 0, .string ⟨#[]⟩, .int .i64 0, .int .i64 0] 50))
  have z0 := (hz.cell (p := ⟨r, 0, none⟩) lr).trans b0
  have z2 := (hz.cell (p := ⟨r, 2, none⟩) lr).trans b2
  have y0 := (hz.cell (p := ⟨g, o + i * 5, none⟩) hg2).trans k0
  have y1 := (hz.cell (p := ⟨g, o + i * 5 + 1, none⟩) hg2).trans k1
  have y2 := (hz.cell (p := ⟨g, o + i * 5 + 2, none⟩) hg2).trans k2
  have y3 := (hz.cell (p := ⟨g, o + i * 5 + 3, none⟩) hg2).trans k3
  have y4 := (hz.cell (p := ⟨g, o + i * 5 + 4, none⟩) hg2).trans k4
  have HZ := Lib.hid hz
  clear hz
  go_wp2_with fail
  go_region
  clear z0 z2 y0 y1 y2 y3 y4
  obtain ⟨wz, hwz⟩ : ∃ wz, (wq.alloc (.cells (tokC t) 50)).drew = wz := ⟨_, rfl⟩
  have hbz : Below (wq.alloc (.cells (tokC t) 50)).heap.size (wq.alloc (.cells (tokC t) 50)) wz := by rw [← hwz]; exact (Below.refl _ _).drew
  obtain ⟨v0, v1, v2, v3, v4⟩ := box_cells t wq wz hbz
  have hbz2 := hbq.trans (((Below.refl wq.heap.size wq).alloc (Nat.le_refl _) (.cells (tokC t) 50)).trans (hbz.mono (by rw [World.size_alloc]; omega)) |>.mono (by have := HSZ.out; omega))
  have hwz' : (wq.alloc (.cells #[.int .i64 t.kind, .int .i64 t.num, .string t.text, .int .i64 t.at_, .int .i64 t.mark] 50)).drew = wz := hwz
  rw [hwz']
  clear hwz hwz' hbz b0 b2 k0 k1 k2 k3 k4
  go_wp2_with fail
  go_at_call 78
  refine (rCloses_any t _).mono ?_
  rintro e W3 ⟨rfl, hb3⟩
  have hb4 := hbz2.trans (hb3.mono hbz2.size)
  have lz : wq.heap.size < wz.heap.size := cell_lt' v0
  have u0 := (hb3.cell (p := ⟨wq.heap.size, 0, none⟩) lz).trans v0
  have u2 := (hb3.cell (p := ⟨wq.heap.size, 2, none⟩) lz).trans v2
  clear hb3 hbz2 v0 v1 v2 v3 v4
  cases q1 : rCl t <;> cases q2 : (t.kind == 5) <;> cases q3 : (t.text.toList == [59])
  all_goals
    go_wp2_with fail
    go_ret
    exact ⟨by first | rfl | simp [q1, q2, q3], hb4⟩
end
/- (P29) -/
section
variable {ts : List Tok} {ws : List ByteArray}
theorem pT_open {s : Rst} {t : Tok} (ht : ts[s.at_]? = some t) (hok : tokOk t = true) (hc : rCl t = false) (ho : pOpens ts ws s t = true) (hd : s.stk.length < 100) : pTake ts ws s = .ok ⟨s.at_, ⟨t, t.text, [], s.at_⟩, s.g :: s.stk⟩ := by
  unfold pTake
  rw [ht]
  simp only [cl_eq hok, hc, ho, Bool.false_eq_true, if_false, if_true]
  rw [if_neg (by omega)]
theorem pT_else {s : Rst} {t : Tok} (ht : ts[s.at_]? = some t) (hok : tokOk t = true) (hc : rCl t = false) (ho : pOpens ts ws s t = false) : pTake ts ws s = .ok ⟨s.at_, addF s.g (.mk t ⟨#[]⟩ []), s.stk⟩ := by
  unfold pTake
  rw [ht]
  simp only [cl_eq hok, hc, ho, Bool.false_eq_true, if_false]
/-- What holds of a state behind the opening of a group. -/
theorem I_open (hw : okWords ws = true) {s : Rst} {t : Tok} (hi : Inv ws s) (ht : ts[s.at_]? = some t) (hok : tokOk t = true) (hc : rCl t = false) (ho : pOpens ts ws s t = true) (hd : s.stk.length < 100) :
    Inv ws ⟨s.at_ + 1, ⟨t, t.text, [], s.at_⟩, s.g :: s.stk⟩ := (step_inv (clo_nil hw) hi ht hok (pT_open ht hok hc ho hd)).1
/-- What holds of a state behind a token that is no group. -/
theorem I_else (hw : okWords ws = true) {s : Rst} {t : Tok} (hi : Inv ws s) (ht : ts[s.at_]? = some t) (hok : tokOk t = true) (hc : rCl t = false) (ho : pOpens ts ws s t = false) :
    Inv ws ⟨s.at_ + 1, addF s.g (.mk t ⟨#[]⟩ []), s.stk⟩ := (step_inv (clo_nil hw) hi ht hok (pT_else ht hok hc ho)).1
theorem pT_close {s : Rst} {t : Tok} {g2 : Grp} {rest : List Grp} (hw : okWords ws = true) (hi : Inv ws s) (hs : s.stk = g2 :: rest) (ht : ts[s.at_]? = some t) (hok : tokOk t = true) (hc : rCl t = true) (hf : rFits t s.g.op = true)
    (hk : ∀ f r, s.g.kids = f :: r → f.op.toList = [] → tokOk f.tok = true ∧ isCl f.tok = false)
    (hb : badAt ts (if nmd3.any (fun x => x.toList == s.g.op.toList) = true then rN ts (s.at_ + 1) s.g.op s.g.kids else 0) (s.at_ + 1) = none) :
    pTake ts ws s = .ok ⟨s.at_ + (if nmd3.any (fun x => x.toList == s.g.op.toList) = true then rN ts (s.at_ + 1) s.g.op s.g.kids else 0), addF g2 (.mk s.g.tok s.g.op s.g.kids), rest⟩ := by
  have hgi := hi.gi
  rw [hs] at hgi
  obtain ⟨_, _, _, hcs⟩ := hgi.pop
  have hne : s.g.op.toList ≠ [] := by
    intro e; rw [e, clo_nil hw] at hcs; cases hcs
  have hp : pEnd ts s = .ok ⟨s.at_, addF g2 (.mk s.g.tok s.g.op s.g.kids), rest⟩ := by
    unfold pEnd
    rw [hs, ht]
    simp only [fits_eq s.g.op hok, hf, Bool.not_true, Bool.false_eq_true, if_false]
  have hcl := clo_three hw s.g.op hcs
  have e0 : pTake ts ws s = (if nmd3.any (fun x => x.toList == s.g.op.toList) = true then pNamed ts s else pEnd ts s) := by
    unfold pTake
    rw [ht]
    simp only [cl_eq hok, hc, if_true, hcl]
    cases nmd3.any (fun x => x.toList == s.g.op.toList) <;> rfl
  rw [e0]
  cases h3 : nmd3.any (fun x => x.toList == s.g.op.toList) with
  | false => simp only [Bool.false_eq_true, if_false]; exact hp
  | true =>
    rw [h3] at hb
    simp only [if_true] at hb ⊢
    have hn := drop_n (ts := ts) hne hk
    rw [← hn] at hb ⊢
    have e1 : pNamed ts s = match dropN ts s with
        | some names => pDrop ts names.length ⟨s.at_, addF g2 (.mk s.g.tok s.g.op s.g.kids), rest⟩
        | none => .ok ⟨s.at_, addF g2 (.mk s.g.tok s.g.op s.g.kids), rest⟩ := by
      unfold pNamed dropN
      rw [hp]
      rfl
    rw [e1]
    cases hd : dropN ts s with
    | none => rfl
    | some names =>
      have hna : nextAre ts s.at_ names = true := by
        have := List.find?_some hd
        simp only [Bool.and_eq_true] at this
        exact this.1
      rw [hd] at hb
      simp only at hb ⊢
      rw [pDrop_at2 (s := ⟨s.at_, addF g2 (.mk s.g.tok s.g.op s.g.kids), rest⟩) (next_some hna)]
      rw [hb]
/-- What holds of a state behind the end of a group and the names behind it. -/
theorem I_close {s : Rst} {t : Tok} {g2 : Grp} {rest : List Grp} (hw : okWords ws = true) (hi : Inv ws s) (hs : s.stk = g2 :: rest) (ht : ts[s.at_]? = some t) (hok : tokOk t = true) (hc : rCl t = true) (hf : rFits t s.g.op = true)
    (hk : ∀ f r, s.g.kids = f :: r → f.op.toList = [] → tokOk f.tok = true ∧ isCl f.tok = false) {n : Nat}
    (hn : n = if nmd3.any (fun x => x.toList == s.g.op.toList) = true then rN ts (s.at_ + 1) s.g.op s.g.kids else 0) (hb : badAt ts n (s.at_ + 1) = none) :
    Inv ws ⟨s.at_ + 1 + n, addF g2 (.mk s.g.tok s.g.op s.g.kids), rest⟩ := by
  subst hn
  have := (step_inv (clo_nil hw) hi ht hok (pT_close hw hi hs ht hok hc hf hk hb)).1
  unfold adv at this
  simpa only [Nat.add_right_comm] using this
end
end Go.Proofs.YtopbmndjnjnmcaaGreatDoor
