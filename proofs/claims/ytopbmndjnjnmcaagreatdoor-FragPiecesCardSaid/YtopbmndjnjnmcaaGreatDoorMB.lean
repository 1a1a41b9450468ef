/- Package fragment: texts F8, F10, F11, P1, P2, in one. -/
import Derived.Test.YtopbmndjnjnmcaaGreatDoorMA
import Derived.Test.YtopbmndjnjnmcaaGreatDoorN15
/- (F8) -/
/- Package fragment: refuse, check, drop. -/
namespace Go.Proofs.YtopbmndjnjnmcaaGreatDoor
open Go.RowKit Lx Go.Sort

attribute [local go_sem] Oper.semAt_some

/-- What a reader panics with. -/
def refuse68 (er : Nat) (i : Int) : Ending := .panicked [{ v := .iface 68 (.agg #[.int .i64 er, .int .i64 i]), recovered := false }]

set_option maxHeartbeats 1000000 in
/-- **refuse** -/
theorem refuse68_any (r er : Nat) (i : Int) (w : World) (h1 : w.cell? ⟨r, 1, none⟩ = some (.int .i64 i)) :
    Calls Tryz.prog 69 #[.pointer (some ⟨r, 0, none⟩), .int .i64 er] w fun e w' => e = refuse68 er i ∧ w' = w := by
  go_enter Tryz.func69, Tryz.ntmps69
  go_wp2
  exact ⟨rfl, rfl, rfl⟩

theorem tok_read {W : World} {v : Value} {ts : List Tok} (h : TokRead W v ts) {i : Nat} {t : Tok} (ht : ts[i]? = some t) : ∃ g o c, v = .slice (some ⟨g, o, none⟩) ts.length c ∧ ts.length ≤ c ∧ ts.length ≤ maxLen ∧ g < W.heap.size ∧
    W.cell? ⟨g, o + i * 5, none⟩ = some (.int .i64 t.kind) ∧ W.cell? ⟨g, o + i * 5 + 1, none⟩ = some (.int .i64 t.num) ∧ W.cell? ⟨g, o + i * 5 + 2, none⟩ = some (.string t.text) ∧ W.cell? ⟨g, o + i * 5 + 3, none⟩ = some (.int .i64 t.at_) ∧ W.cell? ⟨g, o + i * 5 + 4, none⟩ = some (.int .i64 t.mark) := by
  obtain ⟨a, c, rfl, ⟨hn, hc⟩, h⟩ := h
  obtain ⟨g, o, rfl, hg, h0⟩ := h i t ht
  exact ⟨g, o, c, rfl, hc, hn, hg, h0⟩

theorem lt_drew (w : World) : w.drew.heap.size = w.heap.size := rfl

set_option maxRecDepth 100000 in
set_option maxHeartbeats 4000000 in
/-- **check** -/
theorem rdCheck_any (ts : List Tok) (vt : Value) (r i : Nat) (t : Tok) (ht : ts[i]? = some t) (hz : t.text.size ≤ maxLen) (w : World) (he : Env w) (h0 : w.cell? ⟨r, 0, none⟩ = some vt) (h1 : w.cell? ⟨r, 1, none⟩ = some (.int .i64 i)) (hr : TokRead w vt ts) :
    Calls Tryz.prog 72 #[.pointer (some ⟨r, 0, none⟩)] w fun e W => e = (if tokOk t = true then .returned (.tuple #[]) else refuse68 14 i) ∧ Below w.heap.size w W := by
  have HE := Lib.hid (he.below ((Below.refl w.heap.size w).drew))
  obtain ⟨g, o, c, rfl, hc, hn, hg, k0, k1, k2, k3, k4⟩ := tok_read hr ht
  have hi := (List.getElem?_eq_some_iff.1 ht).1
  have lr : r < w.heap.size := cell_lt' h0
  unfold maxLen at hn
  clear hr ht he
  have hct := check_tok t hz w.drew HE.out
  obtain ⟨tk, tn, tx, ta, tm⟩ := t
  unfold TokV tokC at hct
  simp only at k0 k1 k2 k3 k4 hct
  cases hk : tokOk ⟨tk, tn, tx, ta, tm⟩
  · rw [tokEr_no hk] at hct
    have HC := Lib.hid hct
    clear hct hk
    go_enter Tryz.func72, Tryz.ntmps72
    go_wp2_with fail
    go_region_held3 (fun w' => w'.cell? ⟨r, 0, none⟩ = some (.slice (some ⟨g, o, none⟩) ts.length c) ∧ w'.cell? ⟨r, 1, none⟩ = some (.int .i64 i) ∧ w'.cell? ⟨g, o + i * 5, none⟩ = some (.int .i64 tk) ∧ w'.cell? ⟨g, o + i * 5 + 1, none⟩ = some (.int .i64 tn) ∧ w'.cell? ⟨g, o + i * 5 + 2, none⟩ = some (.string tx) ∧ w'.cell? ⟨g, o + i * 5 + 3, none⟩ = some (.int .i64 ta) ∧ w'.cell? ⟨g, o + i * 5 + 4, none⟩ = some (.int .i64 tm)) (first | go_keep)
      (first
        | (go_at_call 85; refine HC.out.mono ?_; rintro e w9 ⟨rfl, hb9⟩; have q0 : w9.cell? ⟨r, 0, none⟩ = _ := (hb9.cell (p := ⟨r, 0, none⟩) lr).trans h0; have q1 : w9.cell? ⟨r, 1, none⟩ = _ := (hb9.cell (p := ⟨r, 1, none⟩) lr).trans h1; have p0 : w9.cell? ⟨g, o + i * 5, none⟩ = _ := (hb9.cell (p := ⟨g, o + i * 5, none⟩) hg).trans k0; have p1 : w9.cell? ⟨g, o + i * 5 + 1, none⟩ = _ := (hb9.cell (p := ⟨g, o + i * 5 + 1, none⟩) hg).trans k1; have p2 : w9.cell? ⟨g, o + i * 5 + 2, none⟩ = _ := (hb9.cell (p := ⟨g, o + i * 5 + 2, none⟩) hg).trans k2; have p3 : w9.cell? ⟨g, o + i * 5 + 3, none⟩ = _ := (hb9.cell (p := ⟨g, o + i * 5 + 3, none⟩) hg).trans k3; have p4 : w9.cell? ⟨g, o + i * 5 + 4, none⟩ = _ := (hb9.cell (p := ⟨g, o + i * 5 + 4, none⟩) hg).trans k4))
    go_wp2_with fail
    go_at_call 69
    refine (refuse68_any r 14 i _ q1).mono ?_
    rintro e w' ⟨rfl, rfl⟩
    unfold refuse68
    go_wp2_with fail
    exact ⟨rfl, rfl, (Below.refl w.heap.size w).drew.trans (hb9.mono (Nat.le_refl _))⟩
  · rw [tokEr_ok hk] at hct
    have HC := Lib.hid hct
    clear hct hk
    go_enter Tryz.func72, Tryz.ntmps72
    go_wp2_with fail
    go_region_held3 (fun w' => w'.cell? ⟨r, 0, none⟩ = some (.slice (some ⟨g, o, none⟩) ts.length c) ∧ w'.cell? ⟨r, 1, none⟩ = some (.int .i64 i) ∧ w'.cell? ⟨g, o + i * 5, none⟩ = some (.int .i64 tk) ∧ w'.cell? ⟨g, o + i * 5 + 1, none⟩ = some (.int .i64 tn) ∧ w'.cell? ⟨g, o + i * 5 + 2, none⟩ = some (.string tx) ∧ w'.cell? ⟨g, o + i * 5 + 3, none⟩ = some (.int .i64 ta) ∧ w'.cell? ⟨g, o + i * 5 + 4, none⟩ = some (.int .i64 tm)) (first | go_keep)
      (first
        | (go_at_call 85; refine HC.out.mono ?_; rintro e w9 ⟨rfl, hb9⟩; have q0 : w9.cell? ⟨r, 0, none⟩ = _ := (hb9.cell (p := ⟨r, 0, none⟩) lr).trans h0; have q1 : w9.cell? ⟨r, 1, none⟩ = _ := (hb9.cell (p := ⟨r, 1, none⟩) lr).trans h1; have p0 : w9.cell? ⟨g, o + i * 5, none⟩ = _ := (hb9.cell (p := ⟨g, o + i * 5, none⟩) hg).trans k0; have p1 : w9.cell? ⟨g, o + i * 5 + 1, none⟩ = _ := (hb9.cell (p := ⟨g, o + i * 5 + 1, none⟩) hg).trans k1; have p2 : w9.cell? ⟨g, o + i * 5 + 2, none⟩ = _ := (hb9.cell (p := ⟨g, o + i * 5 + 2, none⟩) hg).trans k2; have p3 : w9.cell? ⟨g, o + i * 5 + 3, none⟩ = _ := (hb9.cell (p := ⟨g, o + i * 5 + 3, none⟩) hg).trans k3; have p4 : w9.cell? ⟨g, o + i * 5 + 4, none⟩ = _ := (hb9.cell (p := ⟨g, o + i * 5 + 4, none⟩) hg).trans k4))
    go_wp2_with fail
    go_end0
    exact ⟨rfl, (Below.refl w.heap.size w).drew.trans (hb9.mono (Nat.le_refl _))⟩
end Go.Proofs.YtopbmndjnjnmcaaGreatDoor

/- (F10) -/
/- Package fragment: end. -/
namespace Go.Proofs.YtopbmndjnjnmcaaGreatDoor
open Go.RowKit Lx Go.Sort

attribute [local go_sem] Oper.semAt_some

theorem field50_2 (a b c d e : Value) (w : World) : (Instr.field 50 (.agg #[a, b, c, d, e]) 2).run Tryz.prog w = .ok c w := by kernel_rfl
attribute [local go_sem ↓] field50_2

theorem rd_frozen {W : World} {r : Nat} {cs : Array Value} (h : W.heap[r]? = some (.cells cs 101 (0, 0))) (j : Nat) : W.frozen? ⟨r, j, none⟩ = false := by
  unfold World.frozen?
  simp [h]

/-- How end ends. -/
def EndPost (t : Tok) (B r mb : Nat) (vt gv : Value) (at_ : Int) (f f2 : Gp) (rest : List Gp) (w : World) (e : Ending) (W : World) : Prop :=
  if ((closeTok f.tok f.op).text.toList != t.text.toList) = true then e = refuse68 20 at_ ∧ Below B w W
  else e = .returned (.tuple #[]) ∧ (∃ gv' kv', RdI B r mb vt at_ gv' ({ f2 with kids := f2.kids ++ [.mk f.tok f.op f.kids], kv := kv' } :: rest) W) ∧ Below B w W ∧ W.heap[mb]? = w.heap[mb]? ∧ FrRead W (fun _ => True) f.kv f.kids ∧ ∀ b, ¬ Live r mb gv (f :: f2 :: rest) b → b < w.heap.size → W.heap[b]? = w.heap[b]?

set_option maxRecDepth 100000 in
set_option maxHeartbeats 4000000 in
/-- **end** -/
theorem end_any (ts : List Tok) {B r mb i : Nat} {vt gv : Value} {f f2 : Gp} {rest : List Gp} {t : Tok} {w : World} (h : RdI B r mb vt i gv (f :: f2 :: rest) w) (ht : ts[i]? = some t) (hr : TokRead w vt ts) (hk : f2.kids.length ≤ 6000) (hl : rest.length ≤ 1000) :
    Calls Tryz.prog 70 #[.pointer (some ⟨r, 0, none⟩)] w fun e W => EndPost t B r mb vt gv i f f2 rest w e W := by
  obtain ⟨gb, cap, rfl, hc1, hc2, hB, hgbl, hcell⟩ := h.head
  obtain ⟨xs, hown, _⟩ := h.kids f (List.mem_cons_self)
  obtain ⟨ka, kc, hkv⟩ : ∃ a c, f.kv = .slice a f.kids.length c := by
    rcases hown.2 with ⟨h, h0⟩ | ⟨g, cap, cur, h, _⟩
    · exact ⟨_, _, by rw [h, h0]⟩
    · exact ⟨_, _, h⟩
  have c0 := hcell 0 _ rfl
  have c1 := hcell 1 _ rfl
  have c2 := hcell 2 _ rfl
  have c3 := hcell 3 _ rfl
  have c4 := hcell 4 _ rfl
  have c5 := hcell 5 _ rfl
  have c6 := hcell 6 _ rfl
  obtain ⟨_, _, r2, _⟩ := rd_cells h.rd
  have HW := Lib.hid h
  have HT := Lib.hid hr
  have HKV := Lib.hid hkv
  rw [hkv] at c6
  simp only [List.length_cons, Nat.add_zero] at *
  clear hcell h hr hown hkv
  have hcl := fun w' => closing_any f.tok f.op (.slice ka f.kids.length kc) w'
  obtain ⟨ct, hct⟩ : ∃ ct, closeTok f.tok f.op = ct := ⟨_, rfl⟩
  simp only [hct] at hcl
  unfold TokV tokC frC at hcl
  have HC := Lib.hid hcl
  unfold EndPost
  rw [hct]
  clear hcl hct
  obtain ⟨q, hq⟩ : ∃ q, (ct.text.toList == t.text.toList) = q := ⟨_, rfl⟩
  have hq2 : (ct.text.toList != t.text.toList) = !q := by rw [← hq]; rfl
  rw [hq2]
  go_enter Tryz.func70, Tryz.ntmps70
  go_wp2_with fail
  go_at_call 74
  refine (inner_any r gb (rest.length + 1) cap hc1 hc2 _ r2).mono ?_
  rintro e w9 ⟨rfl, k, hw9⟩
  have heq : ∀ a, w9.cell? a = w.cell? a := fun a => by rw [hw9]; rfl
  have d0 := (heq _).trans c0
  have d1 := (heq _).trans c1
  have d2 := (heq _).trans c2
  have d3 := (heq _).trans c3
  have d4 := (heq _).trans c4
  have d5 := (heq _).trans c5
  have d6 := (heq _).trans c6
  have hb9 : Below w.heap.size w w9 := by rw [hw9]; exact below_drewN (Below.refl _ _) k
  have HB9 := Lib.hid hb9
  clear hb9 hw9 r2 heq c0 c1 c2 c3 c4 c5 c6
  go_wp2_with fail
  obtain ⟨W1, hW1⟩ : ∃ W1, w9.alloc (.cells #[.int .i64 f.tok.kind, .int .i64 f.tok.num, .string f.tok.text, .int .i64 f.tok.at_, .int .i64 f.tok.mark, .string f.op, .slice ka f.kids.length kc] 52) = W1 := ⟨_, rfl⟩
  have kn : W1.heap[w9.heap.size]? = some (.cells #[.int .i64 f.tok.kind, .int .i64 f.tok.num, .string f.tok.text, .int .i64 f.tok.at_, .int .i64 f.tok.mark, .string f.op, .slice ka f.kids.length kc] 52 (0, 0)) := by rw [← hW1]; exact heap_alloc_new w9 _
  have hb1 : Below w.heap.size w W1 := by rw [← hW1]; exact HB9.out.alloc HB9.out.size _
  rw [hW1]
  have hW := HW.out.bl hb1
  obtain ⟨r0, r1, r2, _⟩ := rd_cells hW.rd
  have hr1 := HT.out.bl hb1
  obtain ⟨g, o, c, hvt, hc, hn, hg, _, _, p2, _, _⟩ := tok_read hr1 ht
  rw [hvt] at r0
  have hi := (List.getElem?_eq_some_iff.1 ht).1
  have lr : r < W1.heap.size := cell_lt' r0
  have ln : w9.heap.size < W1.heap.size := (Array.getElem?_eq_some_iff.1 kn).1
  have hnr : w9.heap.size ≠ r := fun e => by
    have h1 := hW.rd
    rw [← e, kn] at h1
    simp at h1
  unfold maxLen at hn
  have HW1 := Lib.hid hW
  have HB1 := Lib.hid hb1
  have HT1 := Lib.hid hr1
  have HVT := Lib.hid hvt
  have n0 : W1.cell? ⟨w9.heap.size, 0, none⟩ = some (.int .i64 f.tok.kind) := by rw [cell_of_row _ _ _ _ _ _ kn]; rfl
  have n1 : W1.cell? ⟨w9.heap.size, 1, none⟩ = some (.int .i64 f.tok.num) := by rw [cell_of_row _ _ _ _ _ _ kn]; rfl
  have n2 : W1.cell? ⟨w9.heap.size, 2, none⟩ = some (.string f.tok.text) := by rw [cell_of_row _ _ _ _ _ _ kn]; rfl
  have n3 : W1.cell? ⟨w9.heap.size, 3, none⟩ = some (.int .i64 f.tok.at_) := by rw [cell_of_row _ _ _ _ _ _ kn]; rfl
  have n4 : W1.cell? ⟨w9.heap.size, 4, none⟩ = some (.int .i64 f.tok.mark) := by rw [cell_of_row _ _ _ _ _ _ kn]; rfl
  have n5 : W1.cell? ⟨w9.heap.size, 5, none⟩ = some (.string f.op) := by rw [cell_of_row _ _ _ _ _ _ kn]; rfl
  have n6 : W1.cell? ⟨w9.heap.size, 6, none⟩ = some (.slice ka f.kids.length kc) := by rw [cell_of_row _ _ _ _ _ _ kn]; rfl
  have HN := Lib.hid kn
  clear hW hb1 hr1 hvt hW1 kn d0 d1 d2 d3 d4 d5 d6
  go_region_held3 (fun w' => w'.cell? ⟨w9.heap.size, 0, none⟩ = some (.int .i64 f.tok.kind) ∧ w'.cell? ⟨w9.heap.size, 1, none⟩ = some (.int .i64 f.tok.num) ∧ w'.cell? ⟨w9.heap.size, 2, none⟩ = some (.string f.tok.text) ∧ w'.cell? ⟨w9.heap.size, 3, none⟩ = some (.int .i64 f.tok.at_) ∧ w'.cell? ⟨w9.heap.size, 4, none⟩ = some (.int .i64 f.tok.mark) ∧ w'.cell? ⟨w9.heap.size, 5, none⟩ = some (.string f.op) ∧ w'.cell? ⟨w9.heap.size, 6, none⟩ = some (.slice ka f.kids.length kc) ∧ w'.cell? ⟨r, 0, none⟩ = some (.slice (some ⟨g, o, none⟩) ts.length c) ∧ w'.cell? ⟨r, 1, none⟩ = some (.int .i64 i) ∧ w'.cell? ⟨g, o + i * 5 + 2, none⟩ = some (.string t.text)) (first | go_keep)
    (first
      | (go_at_call 99; refine (HC.out _).mono ?_; rintro e w10 ⟨rfl, hb10⟩; have x0 : w10.cell? ⟨w9.heap.size, 0, none⟩ = _ := (hb10.cell (p := ⟨w9.heap.size, 0, none⟩) ln).trans n0; have x1 : w10.cell? ⟨w9.heap.size, 1, none⟩ = _ := (hb10.cell (p := ⟨w9.heap.size, 1, none⟩) ln).trans n1; have x2 : w10.cell? ⟨w9.heap.size, 2, none⟩ = _ := (hb10.cell (p := ⟨w9.heap.size, 2, none⟩) ln).trans n2; have x3 : w10.cell? ⟨w9.heap.size, 3, none⟩ = _ := (hb10.cell (p := ⟨w9.heap.size, 3, none⟩) ln).trans n3; have x4 : w10.cell? ⟨w9.heap.size, 4, none⟩ = _ := (hb10.cell (p := ⟨w9.heap.size, 4, none⟩) ln).trans n4; have x5 : w10.cell? ⟨w9.heap.size, 5, none⟩ = _ := (hb10.cell (p := ⟨w9.heap.size, 5, none⟩) ln).trans n5; have x6 : w10.cell? ⟨w9.heap.size, 6, none⟩ = _ := (hb10.cell (p := ⟨w9.heap.size, 6, none⟩) ln).trans n6; have y0 : w10.cell? ⟨r, 0, none⟩ = _ := (hb10.cell (p := ⟨r, 0, none⟩) lr).trans r0; have y1 : w10.cell? ⟨r, 1, none⟩ = _ := (hb10.cell (p := ⟨r, 1, none⟩) lr).trans r1; have z2 : w10.cell? ⟨g, o + i * 5 + 2, none⟩ = _ := (hb10.cell (p := ⟨g, o + i * 5 + 2, none⟩) hg).trans p2))
  have hb2 : Below w.heap.size w w10 := HB1.out.trans ((Below.refl W1.heap.size W1).drew.trans hb10 |>.mono HB1.out.size)
  have HB2 := Lib.hid hb2
  clear hb2 x0 x1 x2 x3 x4 x5 x6 n0 n1 n2 n3 n4 n5 n6
  cases q
  rotate_left
  · have hW10 := HW.out.bl HB2.out
    obtain ⟨_, _, y2, _⟩ := rd_cells hW10.rd
    have fz2 : w10.frozen? ⟨r, 2, none⟩ = false := rd_frozen hW10.rd 2
    have hwr : IntKind.i64.wrap (((rest.length + 1 + 1 : Nat) : Int) - 1) = ((rest.length + 1 : Nat) : Int) := by rw [IntWalk.i64_in _ (by omega)]; omega
    have s0 : (0 : Int) ≤ ((rest.length + 1 : Nat) : Int) := by omega
    have s1 : ((rest.length + 1 : Nat) : Int) ≤ (cap : Int) := by omega
    have HW10 := Lib.hid hW10
    have hpop := hW10.pop rfl
    rw [HKV.out] at hpop
    have hp1 := hpop.1.bl ((Below.refl _ _).drew)
    have hp2 := hpop.2.bl ((Below.refl _ _).drew)
    have hmr : mb ≠ r := Ne.symm hW10.diff.1
    have hmb := HB2.out.block mb HW.out.base.2.2
    have hbB : B ≤ w.heap.size := by have := HW.out.base.2; omega
    have hBr : B ≤ r := HW.out.base.1
    have HP1 := Lib.hid hp1
    have HP2 := Lib.hid hp2
    have HMB := Lib.hid hmb
    clear hp1 hp2 hmb
    clear hW10 hpop HW1 HB1 HW
    go_wp2_with fail
    go_region
    go_wp2_with fail
    refine (add_any HP1.out (.mk f.tok f.op f.kids) (.slice ka f.kids.length kc) HP2.out hk).mono ?_
    rintro e W ⟨rfl, hadd⟩
    go_wp2_with fail
    go_end0
    obtain ⟨⟨g1, cap1, h1⟩, h2, h3, h4⟩ := hadd
    refine ⟨rfl, ⟨_, _, h1⟩, ((HB2.out.mono hbB).setCell hBr _).drew.trans h2, h3.trans ((set_ne _ _ _ _ hmr).trans HMB.out), ?_⟩
    rw [HKV.out]
    refine ⟨HP2.out.keep fun b hs hlt => ⟨h4 b hs hlt, trivial⟩, fun b hs hlt => ?_⟩
    have hbr : b ≠ r := fun e => hs (.inl e)
    refine (h4 b (fun hl => hs ?_) (by show b < (w10.setCell _ _).heap.size; rw [set_size]; exact Nat.lt_of_lt_of_le hlt HB2.out.size)).trans ((set_ne _ _ _ _ hbr).trans (HB2.out.block b hlt))
    rcases hl with h1 | h1 | h1 | ⟨f', h1, h2⟩
    · exact .inl h1
    · exact .inr (.inl h1)
    · exact .inr (.inr (.inl h1))
    · exact .inr (.inr (.inr ⟨f', List.mem_cons_of_mem _ h1, h2⟩))
  · go_wp2_with fail
    go_at_call 69
    refine (refuse68_any r 20 i _ y1).mono ?_
    rintro e w' ⟨rfl, rfl⟩
    unfold refuse68
    go_wp2_with fail
    exact ⟨rfl, rfl, HB2.out.mono (by have := HW.out.base.2; omega)⟩
end Go.Proofs.YtopbmndjnjnmcaaGreatDoor

/- (F11) -/
/- Package fragment: drop. -/
namespace Go.Proofs.YtopbmndjnjnmcaaGreatDoor
open Go.RowKit Lx Go.Sort

attribute [local go_sem] Oper.semAt_some

/-- What a reader holds between the steps of a function. -/
structure RdK (B r mb : Nat) (vt : Value) (at_ : Int) (gv : Value) (fs : List Gp) (w W : World) : Prop where
  rd : RdI B r mb vt at_ gv fs W
  bel : Below B w W
  map : W.heap[mb]? = w.heap[mb]?
theorem RdK.bl {B r mb : Nat} {vt gv : Value} {at_ : Int} {fs : List Gp} {w W W' : World} (h : RdK B r mb vt at_ gv fs w W) (hb : Below W.heap.size W W') : RdK B r mb vt at_ gv fs w W' :=
  ⟨h.rd.bl hb, h.bel.trans (hb.mono (by have := h.rd.base.2; omega)), (hb.block mb h.rd.base.2.2).trans h.map⟩
theorem RdK.step {B r mb : Nat} {vt gv : Value} {at_ : Int} {fs : List Gp} {w W : World} (h : RdK B r mb vt at_ gv fs w W) (at' : Int) : RdK B r mb vt at' gv fs w (W.setCell ⟨r, 1, none⟩ (.int .i64 at')) :=
  ⟨h.rd.step at', h.bel.setCell h.rd.base.1 _, (set_ne _ _ _ _ (Ne.symm h.rd.diff.1)).trans h.map⟩

/-- How drop ends. -/
def DropPost (res : Rs) (B r mb : Nat) (vt gv : Value) (fs : List Gp) (w : World) (e : Ending) (W : World) : Prop :=
  match res with
  | .ok s' => e = .returned (.tuple #[]) ∧ RdK B r mb vt s'.at_ gv fs w W
  | .bad er j => e = refuse68 er j ∧ Below B w W

/-- Tokens below a bound can be read, whatever is done above it. -/
def TokLow (B : Nat) (v : Value) (ts : List Tok) (w : World) : Prop := ∀ W, Below B w W → TokRead W v ts
theorem TokLow.trans {B : Nat} {v : Value} {ts : List Tok} {w W : World} (h : TokLow B v ts w) (hb : Below B w W) : TokLow B v ts W := fun W' hb' => h W' (hb.trans hb')

set_option maxRecDepth 100000 in
set_option maxHeartbeats 4000000 in
/-- **drop** -/
theorem drop_any (ts : List Tok) {B r mb i n : Nat} {vt gv : Value} {fs : List Gp} {w : World} (h : RdI B r mb vt i gv fs w) (hr : TokLow B vt ts w) (he : Env w) (h6 : 6 ≤ B) (hz : ∀ t ∈ ts, t.text.size ≤ maxLen) (g : Grp) (stk : List Grp) (hn : i + n < ts.length) (ht : ts.length ≤ 6000) :
    Calls Tryz.prog 103 #[.pointer (some ⟨r, 0, none⟩), .int .i64 n] w fun e W => DropPost (pDrop ts n ⟨i, g, stk⟩) B r mb vt gv fs w e W := by
  have HE := Lib.hid he
  have HT := Lib.hid hr
  have HZ := Lib.hid hz
  have H0 : Hid (RdK B r mb vt ((i + 0 : Nat) : Int) gv fs w w) := Lib.hid ⟨h, Below.refl _ _, rfl⟩
  clear h hr he hz
  obtain ⟨res, hres⟩ : ∃ res, pDrop ts n ⟨i, g, stk⟩ = res := ⟨_, rfl⟩
  rw [hres]
  have HR := Lib.hid hres
  clear hres
  go_enter Tryz.func103, Tryz.ntmps103
  go_wp2_with fail
  go_loopw [5] (fun y wr => ∃ k : Nat, k ≤ n ∧ y = .int .i64 k ∧ Hid (res = pDrop ts (n - k) ⟨i + k, g, stk⟩) ∧ Hid (RdK B r mb vt ((i + k : Nat) : Int) gv fs w wr)) (fun y _ => n - (intOf y).toNat)
  case atStart => exact ⟨0, by omega, rfl, Lib.hid HR.out.symm, H0⟩
  case round =>
    clear H0
    obtain ⟨k, hk, rfl, HN, HK⟩ := hrel
    by_cases hlt : k < n
    · have hrow := HK.out.rd.rd
      obtain ⟨r0, r1, _, _⟩ := rd_cells hrow
      have fz := rd_frozen hrow 1
      obtain ⟨t, htk⟩ : ∃ t, ts[i + k + 1]? = some t := ⟨_, List.getElem?_eq_getElem (by omega)⟩
      have hstep := HK.out.step ((i + k + 1 : Nat) : Int)
      have HS := Lib.hid hstep
      have hst := hstep.rd.rd
      obtain ⟨s0, s1, _, _⟩ := rd_cells hst
      have hck := rdCheck_any ts vt r (i + k + 1) t htk (HZ.out t (List.mem_of_getElem? htk)) (wr.setCell ⟨r, 1, none⟩ (.int .i64 ((i + k + 1 : Nat) : Int))) (HE.out.low (hstep.bel.mono h6)) s0 s1 (HT.out _ hstep.bel)
      have hw1 : IntKind.i64.wrap (((i + k : Nat) : Int) + 1) = ((i + k + 1 : Nat) : Int) := by rw [IntWalk.i64_in _ (by omega)]; omega
      have hnr : res = if tokOk t = true then pDrop ts (n - (k + 1)) ⟨i + (k + 1), g, stk⟩ else .bad 14 ((i + k + 1 : Nat) : Int) := by
        rw [HN.out, show n - k = (n - (k + 1)) + 1 by omega]
        simp only [pDrop]
        rw [htk]
        rfl
      clear hrow hst hstep s0 s1
      cases hq : tokOk t
      · rw [hq] at hck hnr
        simp only [Bool.false_eq_true, if_false] at hck hnr
        subst hnr
        have HC := Lib.hid hck
        clear hck hq
        go_wp2_with fail
        go_at_call 72
        refine HC.out.mono ?_
        rintro e w9 ⟨rfl, hb9⟩
        unfold refuse68
        go_wp2_with fail
        exact ⟨rfl, rfl, HS.out.bel.trans (hb9.mono (by have := HS.out.rd.base.2; omega))⟩
      · rw [hq] at hck hnr
        simp only [if_true] at hck hnr
        have HNR := Lib.hid hnr
        have HC := Lib.hid hck
        clear hck hq hnr
        go_wp2_with fail
        go_at_call 72
        refine HC.out.mono ?_
        rintro e w9 ⟨rfl, hb9⟩
        go_wp2_with fail
        go_roundw
        case rel => exact ⟨k + 1, by omega, rfl, HNR, Lib.hid (HS.out.bl hb9)⟩
        case measure => simp [intOf]; omega
    · obtain rfl : k = n := by omega
      have hnr : res = .ok ⟨i + k, g, stk⟩ := by rw [HN.out, Nat.sub_self]; rfl
      subst hnr
      go_wp2_with fail
      go_end0
      exact ⟨rfl, HK.out⟩
end Go.Proofs.YtopbmndjnjnmcaaGreatDoor

/- (P1) -/
/- Package fragment: an error is found whatever follows two tokens behind it. -/
namespace Go.Proofs.YtopbmndjnjnmcaaGreatDoor
open Go.RowKit Lx Go.Sort

def Agree (ts ts' : List Tok) (n : Nat) : Prop := ∀ j, j < n → ts[j]? = ts'[j]?

section
variable {ts ts' : List Tok} {n : Nat}
theorem nextAre_agree (h : Agree ts ts' n) : ∀ (names : List ByteArray) (i : Nat), i + names.length < n → nextAre ts i names = nextAre ts' i names
  | [], _, _ => rfl
  | nm :: r, i, hi => by
    simp only [List.length_cons] at hi
    simp only [nextAre]
    rw [h (i + 1) (by omega), nextAre_agree h r (i + 1) (by omega)]
theorem stopsAt_agree (h : Agree ts ts' n) (i : Nat) (hi : i < n) : stopsAt ts i = stopsAt ts' i := by unfold stopsAt; rw [h i hi]
theorem pDrop_agree (h : Agree ts ts' n) : ∀ (k : Nat) (s : Rst), s.at_ + k < n → pDrop ts k s = pDrop ts' k s
  | 0, _, _ => rfl
  | k + 1, s, hs => by
    simp only [pDrop]
    rw [h (s.at_ + 1) (by omega)]
    cases ts'[s.at_ + 1]? with
    | none => rfl
    | some t =>
      simp only
      split
      · exact pDrop_agree h k _ (by simp only; omega)
      · rfl
theorem pEnd_agree (h : Agree ts ts' n) (s : Rst) (hs : s.at_ < n) : pEnd ts s = pEnd ts' s := by unfold pEnd; rw [h _ hs]
theorem pEnd_ok {s s' : Rst} (h : pEnd ts s = .ok s') : s'.at_ = s.at_ := by
  unfold pEnd at h
  split at h
  · split at h
    · cases h
    · cases h; rfl
  · cases h
theorem find_congr {α : Type} {p q : α → Bool} : ∀ {l : List α}, (∀ x ∈ l, p x = q x) → l.find? p = l.find? q
  | [], _ => rfl
  | x :: l, h => by
    simp only [List.find?_cons]
    rw [h x (List.mem_cons_self), find_congr (l := l) fun y hy => h y (List.mem_cons_of_mem _ hy)]
theorem repeats_len {op : ByteArray} {kids : List Fr} {x : List ByteArray} (h : x ∈ repeats op kids) : x.length ≤ 2 := by
  unfold repeats at h
  rcases List.mem_cons.1 h with rfl | h
  · simp
  · split at h
    · split at h
      · rcases List.mem_cons.1 h with rfl | h
        · simp
        · rcases List.mem_cons.1 h with rfl | h
          · simp
          · cases h
      · cases h
    · cases h
theorem pNamed_agree (h : Agree ts ts' n) (s : Rst) (hs : s.at_ + 3 < n) : pNamed ts s = pNamed ts' s := by
  unfold pNamed
  rw [pEnd_agree h s (by omega)]
  cases he : pEnd ts' s with
  | bad e i => rfl
  | ok s1 =>
    have h1 := pEnd_ok he
    simp only
    rw [find_congr (q := fun names => nextAre ts' s.at_ names && stopsAt ts' (s.at_ + 1 + names.length)) (fun x hx => by
      have := repeats_len hx
      rw [nextAre_agree h x _ (by omega), stopsAt_agree h _ (by omega)])]
    cases hf : (repeats s.g.op s.g.kids).find? (fun names => nextAre ts' s.at_ names && stopsAt ts' (s.at_ + 1 + names.length)) with
    | none => rfl
    | some names =>
      have := repeats_len (List.mem_of_find?_eq_some hf)
      exact pDrop_agree h _ _ (by omega)
theorem pOpens_agree (h : Agree ts ts' n) (ws : List ByteArray) (s : Rst) (t : Tok) (hs : s.at_ + 1 < n) : pOpens ts ws s t = pOpens ts' ws s t := by
  unfold pOpens; rw [nextAre_agree h [tSlot] _ (by simpa using hs)]
theorem pTake_agree (h : Agree ts ts' n) (ws : List ByteArray) (s : Rst) (hs : s.at_ + 3 < n) : pTake ts ws s = pTake ts' ws s := by
  unfold pTake
  rw [h _ (by omega)]
  cases ts'[s.at_]? with
  | none => rfl
  | some t => simp only; rw [pEnd_agree h s (by omega), pNamed_agree h s hs, pOpens_agree h ws s t (by omega)]

theorem pDrop_bad {e : Nat} {i : Int} : ∀ {k : Nat} {s : Rst}, pDrop ts k s = .bad e i → e = 0 ∨ (s.at_ : Int) < i
  | 0, _, h => by cases h
  | k + 1, s, h => by
    simp only [pDrop] at h
    split at h
    · split at h
      · rcases pDrop_bad h with h | h
        · exact .inl h
        · exact .inr (by simp only at h; omega)
      · cases h; exact .inr (by omega)
    · cases h; exact .inl rfl
theorem pDrop_ok : ∀ {k : Nat} {s s' : Rst}, pDrop ts k s = .ok s' → s.at_ ≤ s'.at_
  | 0, _, _, h => by cases h; exact Nat.le_refl _
  | k + 1, s, s', h => by
    simp only [pDrop] at h
    split at h
    · split at h
      · have := pDrop_ok h
        simp only at this; omega
      · cases h
    · cases h
theorem pEnd_bad {s : Rst} {e : Nat} {i : Int} (h : pEnd ts s = .bad e i) : e = 0 ∨ i = s.at_ := by
  unfold pEnd at h
  split at h
  · split at h
    · cases h; exact .inr rfl
    · cases h
  · cases h; exact .inl rfl
theorem pNamed_ok {s s' : Rst} (h : pNamed ts s = .ok s') : s.at_ ≤ s'.at_ := by
  unfold pNamed at h
  split at h
  · cases h
  · rename_i s1 he
    have h1 := pEnd_ok he
    split at h
    · have := pDrop_ok h; omega
    · cases h; omega
theorem pNamed_bad {s : Rst} {e : Nat} {i : Int} (h : pNamed ts s = .bad e i) : e = 0 ∨ (s.at_ : Int) ≤ i := by
  unfold pNamed at h
  split at h
  · rename_i he
    cases h
    rcases pEnd_bad he with h | h
    · exact .inl h
    · exact .inr (by omega)
  · rename_i s1 he
    have h1 := pEnd_ok he
    split at h
    · rcases pDrop_bad h with h | h
      · exact .inl h
      · exact .inr (by omega)
    · cases h
theorem pTake_ok {ws : List ByteArray} {s s' : Rst} (h : pTake ts ws s = .ok s') : s.at_ ≤ s'.at_ := by
  unfold pTake at h
  split at h
  · cases h
  · split at h
    · split at h
      · cases h
      · exact Nat.le_of_eq (pEnd_ok h).symm
      · exact pNamed_ok h
    · split at h
      · split at h
        · cases h
        · cases h; exact Nat.le_refl _
      · cases h; exact Nat.le_refl _
theorem pTake_bad {ws : List ByteArray} {s : Rst} {e : Nat} {i : Int} (h : pTake ts ws s = .bad e i) : e = 0 ∨ (s.at_ : Int) ≤ i := by
  unfold pTake at h
  split at h
  · cases h; exact .inl rfl
  · split at h
    · split at h
      · cases h; exact .inr (by omega)
      · rcases pEnd_bad h with h | h
        · exact .inl h
        · exact .inr (by omega)
      · exact pNamed_bad h
    · split at h
      · split at h
        · cases h; exact .inr (by omega)
        · cases h
      · cases h
/-- An error at the token that is taken needs no more than the next one. -/
theorem pTake_here (h : Agree ts ts' n) {ws : List ByteArray} {s : Rst} {e : Nat} (hs : s.at_ + 1 < n) (hb : pTake ts ws s = .bad e s.at_) (h0 : e ≠ 0) : pTake ts' ws s = .bad e s.at_ := by
  unfold pTake at hb ⊢
  rw [← h _ (by omega)]
  cases ht : ts[s.at_]? with
  | none => rw [ht] at hb; exact hb
  | some t =>
    rw [ht] at hb
    simp only at hb ⊢
    rw [← pOpens_agree h ws s t hs, ← pEnd_agree h s (by omega)]
    split at hb
    · rename_i hc
      rw [if_pos hc]
      cases hcl : clo ws s.g.op.toList with
      | none => rw [hcl] at hb; exact hb
      | some b =>
        rw [hcl] at hb
        cases b with
        | false => exact hb
        | true =>
          simp only at hb ⊢
          unfold pNamed at hb ⊢
          rw [← pEnd_agree h s (by omega)]
          cases he : pEnd ts s with
          | bad e' i' => rw [he] at hb; exact hb
          | ok s1 =>
            exfalso
            have h1 := pEnd_ok he
            rw [he] at hb
            simp only at hb
            split at hb
            · rcases pDrop_bad hb with h | h
              · exact h0 h
              · omega
            · cases hb
    · rename_i hc
      rw [if_neg hc]
      exact hb
theorem pGo_bad {ws : List ByteArray} {e : Nat} {i : Int} : ∀ {n : Nat} {s : Rst}, pGo ts ws n s = .bad e i → e = 0 ∨ (s.at_ : Int) ≤ i
  | 0, _, h => by cases h
  | n + 1, s, h => by
    simp only [pGo] at h
    split at h
    · split at h
      · split at h
        · rename_i hp; cases h; exact pTake_bad hp
        · rename_i s' hp
          have := pTake_ok hp
          rcases pGo_bad h with h | h
          · exact .inl h
          · exact .inr (by simp only at h; omega)
      · cases h; exact .inr (by omega)
    · cases h
theorem pGo_agree {ws : List ByteArray} {e i : Nat} (h : Agree ts ts' (i + 3)) (hl : i + 3 ≤ ts'.length) (h0 : e ≠ 0) : ∀ (n n' : Nat) (s : Rst), pGo ts ws n s = .bad e i → i < s.at_ + n' → pGo ts' ws n' s = .bad e i
  | 0, _, _, hb, _ => by cases hb
  | n + 1, n', s, hb, hn => by
    have hle : s.at_ ≤ i := by
      rcases pGo_bad hb with h | h
      · exact absurd h h0
      · omega
    obtain ⟨m, rfl⟩ : ∃ m, n' = m + 1 := ⟨n' - 1, by omega⟩
    simp only [pGo] at hb ⊢
    rw [if_pos (show s.at_ < ts'.length by omega)]
    split at hb
    · have hck : pCheck ts' s.at_ = pCheck ts s.at_ := by unfold pCheck; rw [h s.at_ (by omega)]
      rw [hck]
      split at hb
      · rename_i hc
        rw [if_pos hc]
        cases hp : pTake ts ws s with
        | bad e' i' =>
          rw [hp] at hb
          simp only [Rs.bad.injEq] at hb
          obtain ⟨rfl, rfl⟩ := hb
          rcases Nat.lt_or_ge s.at_ i with h1 | h1
          · rw [← pTake_agree h ws s (by omega), hp]
          · obtain rfl : s.at_ = i := by omega
            rw [pTake_here h (by omega) hp h0]
        | ok s' =>
          rw [hp] at hb
          have h1 := pTake_ok hp
          have h2 : s'.at_ + 1 ≤ i := by
            rcases pGo_bad hb with h | h
            · exact absurd h h0
            · simp only at h; omega
          rw [← pTake_agree h ws s (by omega), hp]
          exact pGo_agree h hl h0 n m _ hb (by simp only; omega)
      · rename_i hc
        rw [if_neg hc]
        exact hb
    · cases hb
end

/-- **Prefix**: an error is found whatever follows the second token behind it. -/
theorem pRead_prefix {ts more : List Tok} {ws : List ByteArray} {e : Nat} {i : Int} (h : pRead ts ws = .bad e i) (he : e = 14 ∨ e = 6 ∨ e = 20) : ∃ k : Nat, i = k ∧
    (k + 2 < ts.length → k + 3 + more.length ≤ 6000 → pRead (ts.take (k + 3) ++ more) ws = .bad e i) := by
  unfold pRead at h
  split at h
  · cases h; omega
  · rename_i hw
    split at h
    · cases h; omega
    · unfold pRead0 at h
      split at h
      · rename_i e' i' hg
        cases h
        have h0 : e ≠ 0 := by omega
        have hi : 0 ≤ i := by
          rcases pGo_bad hg with h | h
          · exact absurd h h0
          · simp only [st0] at h; omega
        obtain ⟨k, rfl⟩ : ∃ k : Nat, i = k := ⟨i.toNat, by omega⟩
        refine ⟨k, rfl, fun hk hl => ?_⟩
        have hlen : (ts.take (k + 3)).length = k + 3 := by rw [List.length_take]; omega
        have hag : Agree ts (ts.take (k + 3) ++ more) (k + 3) := fun j hj => by
          rw [List.getElem?_append_left (by omega), List.getElem?_take, if_pos hj]
        unfold pRead pRead0
        rw [if_neg hw, if_neg (by rw [List.length_append]; omega), pGo_agree hag (by rw [List.length_append]; omega) h0 _ _ _ hg (by rw [List.length_append]; simp only [st0]; omega)]
      · split at h
        · cases h
        · cases h; omega
end Go.Proofs.YtopbmndjnjnmcaaGreatDoor

/- (P2) -/
/- Package fragment: bounds of what a reader holds. -/
namespace Go.Proofs.YtopbmndjnjnmcaaGreatDoor
open Go.RowKit Lx Go.Sort

/-- Bounds of a reader's state. -/
def Bd (n : Nat) (s : Rst) : Prop := (∀ g ∈ s.g :: s.stk, g.kids.length ≤ n) ∧ s.stk.length ≤ 100
theorem Bd.mono {n m : Nat} {s : Rst} (h : Bd n s) (hm : n ≤ m) : Bd m s := ⟨fun g hg => Nat.le_trans (h.1 g hg) hm, h.2⟩
theorem Bd.at {n : Nat} {s s' : Rst} (h : Bd n s) (hg : s'.g = s.g) (hs : s'.stk = s.stk) : Bd n s' := by
  unfold Bd; rw [hg, hs]; exact h
section
variable {ts : List Tok} {ws : List ByteArray}
theorem pDrop_same : ∀ {k : Nat} {s s' : Rst}, pDrop ts k s = .ok s' → s'.g = s.g ∧ s'.stk = s.stk ∧ (s.at_ < ts.length → s'.at_ < ts.length)
  | 0, _, _, h => by cases h; exact ⟨rfl, rfl, id⟩
  | k + 1, s, s', h => by
    simp only [pDrop] at h
    split at h
    · rename_i t ht
      split at h
      · obtain ⟨h1, h2, h3⟩ := pDrop_same h
        exact ⟨h1, h2, fun _ => h3 (List.getElem?_eq_some_iff.1 ht).1⟩
      · cases h
    · cases h
theorem pEnd_bd {n : Nat} {s s' : Rst} (h : pEnd ts s = .ok s') (hb : Bd n s) : Bd (n + 1) s' := by
  unfold pEnd at h
  split at h
  · rename_i g2 rest t hs ht
    split at h
    · cases h
    · cases h
      obtain ⟨h1, h2⟩ := hb
      rw [hs] at h1 h2
      refine ⟨fun g hg => ?_, by simp only [List.length_cons] at h2 ⊢; omega⟩
      rcases List.mem_cons.1 hg with rfl | hg
      · have := h1 g2 (List.mem_cons_of_mem _ (List.mem_cons_self))
        simp only [addF, List.length_append, List.length_cons, List.length_nil]; omega
      · have := h1 g (List.mem_cons_of_mem _ (List.mem_cons_of_mem _ hg)); omega
  · cases h
theorem pNamed_bd {n : Nat} {s s' : Rst} (h : pNamed ts s = .ok s') (hb : Bd n s) : Bd (n + 1) s' := by
  unfold pNamed at h
  split at h
  · cases h
  · rename_i s1 he
    have h1 := pEnd_bd he hb
    split at h
    · obtain ⟨a, b, _⟩ := pDrop_same h; exact h1.at a b
    · cases h; exact h1
theorem pTake_bd {n : Nat} {s s' : Rst} (h : pTake ts ws s = .ok s') (hb : Bd n s) : Bd (n + 1) s' := by
  unfold pTake at h
  split at h
  · cases h
  · split at h
    · split at h
      · cases h
      · exact pEnd_bd h hb
      · exact pNamed_bd h hb
    · split at h
      · split at h
        · cases h
        · rename_i h100
          cases h
          refine ⟨fun g hg => ?_, by simp only [List.length_cons]; omega⟩
          rcases List.mem_cons.1 hg with rfl | hg
          · simp
          · have := hb.1 g hg; omega
      · cases h
        refine ⟨fun g hg => ?_, hb.2⟩
        rcases List.mem_cons.1 hg with rfl | hg
        · have := hb.1 s.g (List.mem_cons_self)
          simp only [addF, List.length_append, List.length_cons, List.length_nil]; omega
        · have := hb.1 g (List.mem_cons_of_mem _ hg); omega
theorem pTake_lt {s s' : Rst} (h : pTake ts ws s = .ok s') (hl : s.at_ < ts.length) : s'.at_ < ts.length := by
  unfold pTake at h
  split at h
  · cases h
  · split at h
    · split at h
      · cases h
      · rw [pEnd_ok h]; exact hl
      · unfold pNamed at h
        split at h
        · cases h
        · rename_i s1 he
          have h1 := pEnd_ok he
          split at h
          · obtain ⟨_, _, c⟩ := pDrop_same h; exact c (by omega)
          · cases h; omega
    · split at h
      · split at h
        · cases h
        · cases h; exact hl
      · cases h; exact hl
end
end Go.Proofs.YtopbmndjnjnmcaaGreatDoor
