/- Package fragment: the reference's group and list (skerryref02), by induction over what is left of the tokens: for FragReads. -/
import Derived.Test.YtopbmndjnjnmcaaGreatDoorRU
namespace Go.Proofs.YtopbmndjnjnmcaaGreatDoor
open Go.RowKit Lx
/- (U5) -/
attribute [local go_sem] Oper.semAt_some
def StrLow (B : Nat) (v : Value) (ws : List ByteArray) (w : World) : Prop := ∀ W, Below B w W → StrRead W v ws
theorem badAt_none {ts : List Tok} : ∀ {n i : Nat}, badAt ts n i = none → i ≤ ts.length → i + n ≤ ts.length
  | 0, _, _, h => h
  | n + 1, i, hb, h => by
    simp only [badAt] at hb
    cases ht : ts[i]? with
    | none => rw [ht] at hb; cases hb
    | some t =>
      rw [ht] at hb
      have hi := (List.getElem?_eq_some_iff.1 ht).1
      simp only at hb
      split at hb
      · have := badAt_none hb (by omega); omega
      · cases hb
/-- What the list of a group gives. -/
def ListPost (ts : List Tok) (ws : List ByteArray) (B r : Nat) (vt vw : Value) (s : Rst) (w : World) (e : Ending) (W : World) : Prop :=
  w.grownBy W (some r) ∧ ∃ a n c, e = .returned (.slice a n c) ∧ (
    (∃ (er : Nat) (i at' op' : Int), er ≠ 0 ∧ V ts ws s = .bad er i ∧ RdR B r vt vw at' op' er i W) ∨
    (s.stk = [] ∧ ∃ (l : List Fr) (at' : Int), V ts ws s = .ok l ∧ RdR B r vt vw at' 0 0 0 W ∧ FrRead W (fun b => w.heap.size ≤ b) (.slice a n c) l) ∨
    (s.stk ≠ [] ∧ ∃ (l : List Fr) (i : Nat) (t : Tok), ts[i]? = some t ∧ tokOk t = true ∧ rCl t = true ∧ rFits t s.g.op = true ∧ s.at_ ≤ i ∧
       V ts ws s = V ts ws ⟨i, { s.g with kids := l }, s.stk⟩ ∧ Inv ws ⟨i, { s.g with kids := l }, s.stk⟩ ∧ (∀ f ∈ l, tokOk f.tok = true) ∧
       RdR B r vt vw ((i + 1 : Nat) : Int) s.stk.length 0 0 W ∧ FrRead W (fun b => w.heap.size ≤ b) (.slice a n c) l))
def ListC (ts : List Tok) (ws : List ByteArray) (B r : Nat) (vt vw : Value) (w0 : World) (n : Nat) : Prop :=
  ∀ (s : Rst) (fr : Int) (w : World), ts.length < s.at_ + n → s.at_ ≤ ts.length → Inv ws s → s.g.kids = [] → (s.stk = [] → fr = -1) → (s.stk ≠ [] → fr = s.g.from_ ∧ 0 ≤ fr) → s.stk.length ≤ 100 → Below B w0 w → B ≤ w.heap.size →
    RdR B r vt vw s.at_ s.stk.length 0 0 w → Calls Tryz.prog 51 #[.pointer (some ⟨r, 0, none⟩), .string s.g.op, .int .i64 fr] w (ListPost ts ws B r vt vw s w)
/-- What a group gives. -/
def GroupPost (ts : List Tok) (ws : List ByteArray) (B r : Nat) (vt vw : Value) (s : Rst) (t : Tok) (w : World) (e : Ending) (W : World) : Prop :=
  w.grownBy W (some r) ∧ ∃ (tt : Tok) (op : ByteArray) (ka : Option Addr) (kn kc : Nat), e = .returned (.agg (frC tt op (.slice ka kn kc)).toArray) ∧ (
    (∃ (er : Nat) (i at' op' : Int), er ≠ 0 ∧ V ts ws s = .bad er i ∧ RdR B r vt vw at' op' er i W) ∨
    (tt = t ∧ op = t.text ∧ ∃ (l : List Fr) (a' : Nat), s.at_ < a' ∧ a' ≤ ts.length ∧ V ts ws s = V ts ws ⟨a', addF s.g (.mk t t.text l), s.stk⟩ ∧ Inv ws ⟨a', addF s.g (.mk t t.text l), s.stk⟩ ∧
       RdR B r vt vw a' s.stk.length 0 0 W ∧ FrRead W (fun b => w.heap.size ≤ b) (.slice ka kn kc) l))
end Go.Proofs.YtopbmndjnjnmcaaGreatDoor
namespace Go.Proofs.YtopbmndjnjnmcaaGreatDoor
open Go.RowKit Lx
/- (U5b) -/
attribute [local go_sem] Oper.semAt_some
theorem frag_ret {fn : Func} {tmps : Array Value} {W : World} {g : Nat} {cs : Array Value} {Post : Ending → World → Prop} (hf : fn.results = #[.cell 4 52]) (hp : tmps.getD 4 undef = .pointer (some ⟨g, 0, none⟩)) (hg : W.heap[g]? = some (.cells cs 52 (0, 0))) (hs : cs.size = 7) (h : Post (.returned (.agg cs)) W) :
    bodyPost Tryz.prog fn Post Exit.ret { tmps := tmps, defers := [] } W :=
  bodyPost_ret (results_cell_row hf tmps W g 52 cs (0, 0) _ hp hg Tryz.underlying52 rfl (by rw [hs]; kernel_rfl)) rfl h
theorem fr_cells {W : World} {g : Nat} {a0 a1 a2 a3 a4 a5 a6 : Value} (h : W.heap[g]? = some (.cells #[a0, a1, a2, a3, a4, a5, a6] 52 (0, 0))) :
    W.cell? ⟨g, 0, none⟩ = some a0 ∧ W.cell? ⟨g, 1, none⟩ = some a1 ∧ W.cell? ⟨g, 2, none⟩ = some a2 ∧ W.cell? ⟨g, 3, none⟩ = some a3 ∧ W.cell? ⟨g, 4, none⟩ = some a4 ∧ W.cell? ⟨g, 5, none⟩ = some a5 ∧ W.cell? ⟨g, 6, none⟩ = some a6 := by
  refine ⟨?_, ?_, ?_, ?_, ?_, ?_, ?_⟩ <;> (rw [cell_of_row _ _ _ _ _ _ h]; rfl)
theorem fr_free {W : World} {g : Nat} {cs : Array Value} (h : W.heap[g]? = some (.cells cs 52 (0, 0))) (j : Nat) : W.frozen? ⟨g, j, none⟩ = false := by
  unfold World.frozen?
  simp [h]
theorem gnew {w W : World} {row : Option Nat} {g : Nat} (h : w.grownBy W row) (hg : w.heap.size ≤ g) (j : Nat) (v : Value) : w.grownBy (W.setCell ⟨g, j, none⟩ v) row :=
  ⟨h.os, h.tape, h.output, by rw [set_size]; exact h.size, fun b hb hne => (set_ne _ _ _ _ (by omega)).trans (h.block b hb hne)⟩
theorem RdR.ne {B r : Nat} {vt vw : Value} {at_ op e wh : Int} {W : World} (h : RdR B r vt vw at_ op e wh W) {g : Nat} (hg : r ≠ g) (j : Nat) (v : Value) : RdR B r vt vw at_ op e wh (W.setCell ⟨g, j, none⟩ v) :=
  ⟨h.base, (set_ne _ _ _ _ hg).trans h.row⟩
theorem FrRead.ne {W : World} {S : Nat → Prop} {v : Value} {l : List Fr} (h : FrRead W S v l) {g : Nat} (hg : ¬ S g) (j : Nat) (u : Value) : FrRead (W.setCell ⟨g, j, none⟩ u) S v l := h.keep fun _ hs _ => ⟨set_ne _ _ _ _ (fun e => hg (e ▸ hs)), hs⟩
/-- Seven cells are written. -/
def set7w (W : World) (g : Nat) (a0 a1 a2 a3 a4 a5 a6 : Value) : World := ((((((W.setCell ⟨g, 0, none⟩ a0).setCell ⟨g, 1, none⟩ a1).setCell ⟨g, 2, none⟩ a2).setCell ⟨g, 3, none⟩ a3).setCell ⟨g, 4, none⟩ a4).setCell ⟨g, 5, none⟩ a5).setCell ⟨g, 6, none⟩ a6
theorem set7w_heap {W : World} {g : Nat} {x0 x1 x2 x3 x4 x5 x6 : Value} (h : W.heap[g]? = some (.cells #[x0, x1, x2, x3, x4, x5, x6] 52 (0, 0))) (a0 a1 a2 a3 a4 a5 a6 : Value) :
    (set7w W g a0 a1 a2 a3 a4 a5 a6).heap[g]? = some (.cells #[a0, a1, a2, a3, a4, a5, a6] 52 (0, 0)) := by
  unfold set7w
  have h0 := heap_set' W g 0 a0 h
  have h1 := heap_set' _ g 1 a1 h0
  have h2 := heap_set' _ g 2 a2 h1
  have h3 := heap_set' _ g 3 a3 h2
  have h4 := heap_set' _ g 4 a4 h3
  have h5 := heap_set' _ g 5 a5 h4
  have h6 := heap_set' _ g 6 a6 h5
  simp only [List.setIfInBounds_toArray, List.set_cons_zero, List.set_cons_succ] at h6
  exact h6
theorem set7w_gnew {w W : World} {row : Option Nat} {g : Nat} (h : w.grownBy W row) (hg : w.heap.size ≤ g) (a0 a1 a2 a3 a4 a5 a6 : Value) : w.grownBy (set7w W g a0 a1 a2 a3 a4 a5 a6) row :=
  gnew (gnew (gnew (gnew (gnew (gnew (gnew h hg _ _) hg _ _) hg _ _) hg _ _) hg _ _) hg _ _) hg _ _
theorem set7w_rd {B r : Nat} {vt vw : Value} {at_ op e wh : Int} {W : World} (h : RdR B r vt vw at_ op e wh W) {g : Nat} (hg : r ≠ g) (a0 a1 a2 a3 a4 a5 a6 : Value) : RdR B r vt vw at_ op e wh (set7w W g a0 a1 a2 a3 a4 a5 a6) :=
  ((((((h.ne hg _ _).ne hg _ _).ne hg _ _).ne hg _ _).ne hg _ _).ne hg _ _).ne hg _ _
theorem set7w_fr {W : World} {S : Nat → Prop} {v : Value} {l : List Fr} (h : FrRead W S v l) {g : Nat} (hg : ¬ S g) (a0 a1 a2 a3 a4 a5 a6 : Value) : FrRead (set7w W g a0 a1 a2 a3 a4 a5 a6) S v l :=
  ((((((h.ne hg _ _).ne hg _ _).ne hg _ _).ne hg _ _).ne hg _ _).ne hg _ _).ne hg _ _
theorem V_grp {ts : List Tok} {ws : List ByteArray} (hw : okWords ws = true) {s : Rst} {t t2 : Tok} {l : List Fr} {i : Nat} (hIc : Inv ws ⟨i, ⟨t, t.text, l, s.at_⟩, s.g :: s.stk⟩) (ht2 : ts[i]? = some t2) (hok2 : tokOk t2 = true) (hc2 : rCl t2 = true) (hf2 : rFits t2 t.text = true) (hkv : ∀ f ∈ l, tokOk f.tok = true) :
    (V ts ws ⟨i, ⟨t, t.text, l, s.at_⟩, s.g :: s.stk⟩ = match badAt ts (drp ts (i + 1) t.text l) (i + 1) with
      | some q => .bad 14 q
      | none => V ts ws ⟨i + 1 + drp ts (i + 1) t.text l, addF s.g (.mk t t.text l), s.stk⟩) ∧
    (badAt ts (drp ts (i + 1) t.text l) (i + 1) = none → Inv ws ⟨i + 1 + drp ts (i + 1) t.text l, addF s.g (.mk t t.text l), s.stk⟩) := by
  have hk : ∀ f r, (⟨i, ⟨t, t.text, l, s.at_⟩, s.g :: s.stk⟩ : Rst).g.kids = f :: r → f.op.toList = [] → tokOk f.tok = true ∧ isCl f.tok = false := fun f r h he => by
    have hl : l = f :: r := h
    have hm : f ∈ l := by rw [hl]; exact List.mem_cons_self
    exact ⟨hkv f hm, hIc.gi.kid ⟨t, t.text, l, s.at_⟩ List.mem_cons_self f hm he⟩
  refine ⟨V_close (s := ⟨i, ⟨t, t.text, l, s.at_⟩, s.g :: s.stk⟩) hw hIc rfl ht2 hok2 hc2 hf2 hk, fun hb => ?_⟩
  exact I_close (s := ⟨i, ⟨t, t.text, l, s.at_⟩, s.g :: s.stk⟩) hw hIc rfl ht2 hok2 hc2 hf2 hk rfl hb
section
variable {ts : List Tok} {ws : List ByteArray} {B r : Nat} {vt vw : Value} {w0 w : World}
set_option maxRecDepth 100000 in
set_option maxHeartbeats 8000000 in
theorem rGroup_any {n : Nat} (IH : ListC ts ws B r vt vw w0 n) (hw : okWords ws = true) (hlen : ts.length ≤ 6000) (hz : ∀ t ∈ ts, t.text.size ≤ maxLen) (hrl : TokLow B vt ts w0) {s : Rst} {t : Tok}
    (hbw : Below B w0 w) (hBw : B ≤ w.heap.size) (hi : Inv ws s) (ht : ts[s.at_]? = some t) (hok : tokOk t = true) (hc : rCl t = false) (ho : pOpens ts ws s t = true) (hd : s.stk.length ≤ 100) (hn : ts.length < s.at_ + n + 1)
    (h : RdR B r vt vw ((s.at_ + 1 : Nat) : Int) s.stk.length 0 0 w) :
    Calls Tryz.prog 82 #[.pointer (some ⟨r, 0, none⟩), .int .i64 s.at_] w (GroupPost ts ws B r vt vw s t w) := by
  have hb1 := (Below.refl w.heap.size w).alloc (Nat.le_refl _) (.cells #[.int .i64 0, .int .i64 0, .string ⟨#[]⟩, .int .i64 0, .int .i64 0, .string ⟨#[]⟩, .slice none 0 0] 52)
  have hN1 := heap_alloc_new w (.cells #[.int .i64 0, .int .i64 0, .string ⟨#[]⟩, .int .i64 0, .int .i64 0, .string ⟨#[]⟩, .slice none 0 0] 52)
  have h1 := h.bl hb1
  obtain ⟨c0, c1, c2, c3, c4, c5⟩ := h1.cells
  have lr := h.lt
  by_cases h100 : 100 ≤ s.stk.length
  · have hV := V_deep (s := s) ht hok hc ho h100
    have HV := Lib.hid hV
    have H1 := Lib.hid h1
    have HB1 := Lib.hid hb1
    have HN1 := Lib.hid hN1
    have d1 : (100 : Int) ≤ (s.stk.length : Int) := by omega
    clear hV h1 hb1 hN1 ht hbw c0 c1 c2 c4 c5
    go_enter Tryz.func82, Tryz.ntmps82
    go_wp2_with fail
    go_at_call 80
    refine (rFail2 H1.out 6 s.at_).mono ?_
    rintro e W2 ⟨rfl, h2, hg2⟩
    have hN2 := (hg2.block w.heap.size (by rw [World.size_alloc]; omega) (fun e => by have := Option.some.inj e; omega)).trans HN1.out
    have f0 := fr_free hN2 0
    have f1 := fr_free hN2 1
    have f2 := fr_free hN2 2
    have f3 := fr_free hN2 3
    have f4 := fr_free hN2 4
    have f5 := fr_free hN2 5
    have f6 := fr_free hN2 6
    obtain ⟨z0, z1, z2, z3, z4, z5, z6⟩ := fr_cells hN2
    have HN2 := Lib.hid hN2
    have H2 := Lib.hid h2
    have HG2 := Lib.hid hg2
    clear hN2 h2 hg2
    go_wp2_with fail
    refine frag_ret rfl rfl (set7w_heap HN2.out (.int .i64 0) (.int .i64 0) (.string ⟨#[]⟩) (.int .i64 0) (.int .i64 0) (.string ⟨#[]⟩) (.slice none 0 0)) rfl ?_
    exact ⟨set7w_gnew (gtrans (gbl HB1.out) HG2.out) (Nat.le_refl _) _ _ _ _ _ _ _, zTok, ⟨#[]⟩, none, 0, 0, rfl, .inl ⟨6, s.at_, _, _, by decide, HV.out, set7w_rd (show RdR B r vt vw _ _ 6 s.at_ W2 from H2.out) (by omega) _ _ _ _ _ _ _⟩⟩
  · have d1 : ¬ (100 : Int) ≤ (s.stk.length : Int) := by omega
    have hlt : s.stk.length < 100 := by omega
    have hV := V_open (s := s) ht hok hc ho hlt
    have hI := I_open hw hi ht hok hc ho hlt
    have hTR := hrl _ (gbelow (gbl hb1) h.base hBw |> fun z => hbw.trans z)
    obtain ⟨a', c, hvt, ⟨hl1, hl2⟩, hkk⟩ := hTR
    obtain ⟨g, o, ha', hg, m0, m1, m2, m3, m4⟩ := hkk _ t ht
    subst ha'
    have hit : s.at_ < ts.length := (List.getElem?_eq_some_iff.1 ht).1
    obtain ⟨wq, hwq⟩ : ∃ wq, w.alloc (.cells #[.int .i64 0, .int .i64 0, .string ⟨#[]⟩, .int .i64 0, .int .i64 0, .string ⟨#[]⟩, .slice none 0 0] 52) = wq := ⟨_, rfl⟩
    rw [hwq] at hb1 hN1 h1 c0 c1 c2 c3 c4 c5 hg m0 m1 m2 m3 m4
    have hsq : wq.heap.size = w.heap.size + 1 := by rw [← hwq, World.size_alloc]
    have lrq : r < wq.heap.size := by omega
    rw [hvt] at c0
    have HVT := Lib.hid hvt
    have H1 := Lib.hid h1
    have HB1 := Lib.hid hb1
    have HN1 := Lib.hid hN1
    have HSQ := Lib.hid hsq
    have HV := Lib.hid hV
    have HI := Lib.hid hI
    have HT := Lib.hid ht
    unfold maxLen at hl1
    have k1 : (s.at_ : Int) < (ts.length : Int) := by omega
    have hzz := ((Below.refl wq.heap.size wq).alloc (Nat.le_refl _) (.cells #[.int .i64 0, .int .i64 0, .string ⟨#[]⟩, .int .i64 0, .int .i64 0, .string ⟨#[]⟩, .slice none 0 0] 52))
    have z0 := (hzz.cell (p := ⟨r, 0, none⟩) lrq).trans c0
    have y0 := (hzz.cell (p := ⟨g, o + s.at_ * 5, none⟩) hg).trans m0
    have y1 := (hzz.cell (p := ⟨g, o + s.at_ * 5 + 1, none⟩) hg).trans m1
    have y2 := (hzz.cell (p := ⟨g, o + s.at_ * 5 + 2, none⟩) hg).trans m2
    have y3 := (hzz.cell (p := ⟨g, o + s.at_ * 5 + 3, none⟩) hg).trans m3
    have y4 := (hzz.cell (p := ⟨g, o + s.at_ * 5 + 4, none⟩) hg).trans m4
    have HZZ := Lib.hid hzz
    clear hzz hvt h1 hb1 hN1 hV hI ht hkk c1 c2 c4 c5 hsq
    have HWQ := Lib.hid hwq
    go_enter Tryz.func82, Tryz.ntmps82
    go_upto_region 1 with fail
    clear hwq
    go_wp2_with fail
    go_region
    clear z0 y0 y1 y2 y3 y4 m0 m1 m2 m3 m4 c0
    obtain ⟨wz, hwz⟩ : ∃ wz, (wq.alloc (.cells #[.int .i64 t.kind, .int .i64 t.num, .string t.text, .int .i64 t.at_, .int .i64 t.mark, .string t.text, .slice none 0 0] 52)).drew = wz := ⟨_, rfl⟩
    have hN5 : wz.heap[wq.heap.size]? = some (.cells #[.int .i64 t.kind, .int .i64 t.num, .string t.text, .int .i64 t.at_, .int .i64 t.mark, .string t.text, .slice none 0 0] 52 (0, 0)) := by rw [← hwz]; exact heap_alloc_new wq _
    have hbz : Below wq.heap.size wq wz := by rw [← hwz]; exact ((Below.refl _ wq).alloc (Nat.le_refl _) _).drew
    have hsz : wz.heap.size = wq.heap.size + 1 := by rw [← hwz]; exact World.size_alloc _ _
    rw [hwz]
    obtain ⟨b4, hb4⟩ : ∃ b4, w.heap.size = b4 := ⟨_, rfl⟩
    obtain ⟨b5, hb5⟩ : ∃ b5, wq.heap.size = b5 := ⟨_, rfl⟩
    have HB4 := Lib.hid hb4
    have HB5 : Hid (b5 = b4 + 1) := Lib.hid (by have := HSQ.out; omega)
    rw [hb5] at hsz
    have hN4 := (hbz.block w.heap.size (by have := HSQ.out; omega)).trans HN1.out
    have hRz := H1.out.bl hbz
    obtain ⟨c0, c1, c2, c3, c4, c5⟩ := hRz.cells
    have f3 := hRz.free 3
    have hr5 := hRz.setOp ((s.stk.length : Int) + 1)
    have hN5b := (set_ne wz r 3 (.int .i64 ((s.stk.length : Int) + 1)) (show wq.heap.size ≠ r by omega)).trans hN5
    have hN4b := (set_ne wz r 3 (.int .i64 ((s.stk.length : Int) + 1)) (show w.heap.size ≠ r by omega)).trans hN4
    rw [hb5] at hN5b
    rw [hb4] at hN4b
    obtain ⟨x0, x1, x2, x3, x4, x5, x6⟩ := fr_cells hN5b
    have HG5 : Hid (w.grownBy (wz.setCell ⟨r, 3, none⟩ (.int .i64 ((s.stk.length : Int) + 1))) (some r)) := Lib.hid (gset (gtrans (gbl (row := some r) (by rw [← HWQ.out]; exact (Below.refl _ w).alloc (Nat.le_refl _) _)) (gbl hbz)) 3 _)
    have HR5 := Lib.hid hr5
    have HN5 := Lib.hid hN5b
    have HN4 := Lib.hid hN4b
    have HSZ := Lib.hid hsz
    have HBL5 : Hid (Below B w0 (wz.setCell ⟨r, 3, none⟩ (.int .i64 ((s.stk.length : Int) + 1)))) := Lib.hid (hbw.trans (gbelow HG5.out h.base hBw))
    clear hwz hbz hN5 hN4 hRz hr5 hN5b hN4b c0 c1 c2 c4 c5 x0 x1 x2 x3 x4 x6 hsz
    rw [hb4, hb5]
    have HR6 : Hid (RdR B r vt vw ((s.at_ + 1 : Nat) : Int) (((s.g :: s.stk).length : Nat) : Int) 0 0 (wz.setCell ⟨r, 3, none⟩ (.int .i64 ((s.stk.length : Int) + 1)))) := Lib.hid (by
      have h := HR5.out
      rw [show ((s.stk.length : Int) + 1) = (((s.g :: s.stk).length : Nat) : Int) by simp] at h ⊢
      exact h)
    have hL := IH ⟨s.at_ + 1, ⟨t, t.text, [], s.at_⟩, s.g :: s.stk⟩ s.at_ (wz.setCell ⟨r, 3, none⟩ (.int .i64 ((s.stk.length : Int) + 1))) (by simp only; omega) (by simp only; omega) HI.out rfl (fun h => by cases h) (fun _ => ⟨rfl, by omega⟩) (by simp only [List.length_cons]; omega) HBL5.out
      (by rw [set_size]; have := HSZ.out; have := HB4.out; have := HB5.out; omega) HR6.out
    have HL := Lib.hid hL
    clear hL hb4 hb5
    go_wp2_with fail
    go_at_call 51
    refine HL.out.mono ?_
    rintro e W6 ⟨hg6, la, ln, lc, rfl, hp⟩
    have hrb4 : r ≠ b4 := by have := HB4.out; omega
    have hrb5 : r ≠ b5 := by have := HB4.out; have := HB5.out; omega
    have hb45 : b4 ≠ b5 := by have := HB5.out; omega
    have l5 : b5 < (wz.setCell ⟨r, 3, none⟩ (.int .i64 ((s.stk.length : Int) + 1))).heap.size := by rw [set_size]; have := HSZ.out; omega
    have hN5 := (hg6.block b5 l5 (fun e => hrb5 (Option.some.inj e).symm)).trans HN5.out
    have hN4 := (hg6.block b4 (by have := HB5.out; omega) (fun e => hrb4 (Option.some.inj e).symm)).trans HN4.out
    obtain ⟨_, _, _, _, _, _, y6⟩ := fr_cells hN5
    have fy6 := fr_free hN5 6
    have hN5a := heap_set' W6 b5 6 (.slice la ln lc) hN5
    simp only [List.setIfInBounds_toArray, List.set_cons_zero, List.set_cons_succ] at hN5a
    have hN4a := (set_ne W6 b5 6 (.slice la ln lc) hb45).trans hN4
    have HG6 := Lib.hid (gnew (gtrans HG5.out hg6) (show w.heap.size ≤ b5 by have := HB4.out; have := HB5.out; omega) 6 (.slice la ln lc))
    have HN5A := Lib.hid hN5a
    have HN4A := Lib.hid hN4a
    clear hg6 hN5 hN4 hN5a hN4a
    have key : ∀ (at6 op6 e6 wh6 : Int), RdR B r vt vw at6 op6 e6 wh6 W6 → ∀ x : Int, RdR B r vt vw at6 x e6 wh6 ((W6.setCell ⟨b5, 6, none⟩ (.slice la ln lc)).setCell ⟨r, 3, none⟩ (.int .i64 x)) := fun _ _ _ _ h x => (h.ne hrb5 6 _).setOp x
    have KEY := Lib.hid key
    clear key
    rcases hp with ⟨er, i, at', op', her, hVb, hR⟩ | ⟨hs0, _⟩ | ⟨_, l, i, t2, ht2, hok2, hc2, hf2, hle, hVc, hIc, hkv, hR, hF⟩
    · have hRa := hR.ne hrb5 6 (.slice la ln lc)
      obtain ⟨_, _, _, c3, _, _⟩ := hRa.cells
      have f3 := hRa.free 3
      clear hRa
      have HR := Lib.hid hR
      have HVB := Lib.hid hVb
      clear hR hVb
      go_upto_region 8 with fail
      obtain ⟨W7, hW7⟩ : ∃ W7, (W6.setCell ⟨b5, 6, none⟩ (.slice la ln lc)).setCell ⟨r, 3, none⟩ (.int .i64 (wrap64 (op' - 1))) = W7 := ⟨_, rfl⟩
      rw [hW7]
      have hR7 := KEY.out _ _ _ _ HR.out (wrap64 (op' - 1))
      have hN5b := (set_ne (W6.setCell ⟨b5, 6, none⟩ (.slice la ln lc)) r 3 (.int .i64 (wrap64 (op' - 1))) (Ne.symm hrb5)).trans HN5A.out
      have hN4b := (set_ne (W6.setCell ⟨b5, 6, none⟩ (.slice la ln lc)) r 3 (.int .i64 (wrap64 (op' - 1))) (Ne.symm hrb4)).trans HN4A.out
      have hG7 := gset HG6.out 3 (.int .i64 (wrap64 (op' - 1)))
      rw [hW7] at hR7 hN5b hN4b hG7
      clear hW7 c3 f3 y6 fy6
      obtain ⟨_, _, _, _, c4, _⟩ := hR7.cells
      obtain ⟨z0, z1, z2, z3, z4, z5, z6⟩ := fr_cells hN5b
      obtain ⟨v0, v1, v2, v3, v4, v5, v6⟩ := fr_cells hN4b
      have g0 := fr_free hN4b 0
      have g1 := fr_free hN4b 1
      have g2 := fr_free hN4b 2
      have g3 := fr_free hN4b 3
      have g4 := fr_free hN4b 4
      have g5 := fr_free hN4b 5
      have g6 := fr_free hN4b 6
      have d6 : ((er : Int) == 0) = false := by simpa using her
      have HR7 := Lib.hid hR7
      have HN4B := Lib.hid hN4b
      have HG7 := Lib.hid hG7
      clear hR7 hN5b hN4b hG7
      go_wp2_with fail
      refine frag_ret rfl rfl (set7w_heap HN4B.out (.int .i64 t.kind) (.int .i64 t.num) (.string t.text) (.int .i64 t.at_) (.int .i64 t.mark) (.string t.text) (.slice la ln lc)) rfl ?_
      exact ⟨set7w_gnew HG7.out (by have := HB4.out; omega) _ _ _ _ _ _ _, t, t.text, la, ln, lc, rfl, .inl ⟨er, i, _, _, her, by rw [HV.out]; exact HVB.out, set7w_rd HR7.out hrb4 _ _ _ _ _ _ _⟩⟩
    · cases hs0
    · have hRa := hR.ne hrb5 6 (.slice la ln lc)
      rw [show (((⟨s.at_ + 1, ⟨t, t.text, [], s.at_⟩, s.g :: s.stk⟩ : Rst).stk.length : Nat) : Int) = (s.stk.length : Int) + 1 by simp] at hRa
      obtain ⟨_, _, _, c3, _, _⟩ := hRa.cells
      have f3 := hRa.free 3
      clear hRa
      have HR := Lib.hid hR
      clear hR
      go_upto_region 8 with fail
      obtain ⟨W7, hW7⟩ : ∃ W7, (W6.setCell ⟨b5, 6, none⟩ (.slice la ln lc)).setCell ⟨r, 3, none⟩ (.int .i64 (s.stk.length : Int)) = W7 := ⟨_, rfl⟩
      rw [hW7]
      have hR7 := KEY.out _ _ _ _ HR.out (s.stk.length : Int)
      have hN5b := (set_ne (W6.setCell ⟨b5, 6, none⟩ (.slice la ln lc)) r 3 (.int .i64 (s.stk.length : Int)) (Ne.symm hrb5)).trans HN5A.out
      have hN4b := (set_ne (W6.setCell ⟨b5, 6, none⟩ (.slice la ln lc)) r 3 (.int .i64 (s.stk.length : Int)) (Ne.symm hrb4)).trans HN4A.out
      have hG7 := gset HG6.out 3 (.int .i64 (s.stk.length : Int))
      have hF7 := (hF.ne (g := b5) (by omega) 6 (.slice la ln lc)).ne (g := r) (by rw [set_size]; have := HSZ.out; have := HB4.out; have := HB5.out; omega) 3 (.int .i64 (s.stk.length : Int))
      rw [hW7] at hR7 hN5b hN4b hG7 hF7
      clear hW7 c3 f3 y6 fy6 hF
      have s7 : b5 < W7.heap.size := (Array.getElem?_eq_some_iff.1 hN5b).1
      have hb7 := hbw.trans (gbelow hG7 h.base hBw)
      have hd := rDrop_any (a := i + 1) hR7 (fun W hW => hrl W (hb7.trans hW)) (by have := HB4.out; have := HB5.out; omega) hF7 hz (by have := (List.getElem?_eq_some_iff.1 ht2).1; omega) t.text
      obtain ⟨hVg, hIg⟩ := V_grp (s := s) hw hIc ht2 hok2 hc2 hf2 hkv
      obtain ⟨_, _, _, _, c4, _⟩ := hR7.cells
      obtain ⟨_, _, _, _, _, z5, z6⟩ := fr_cells hN5b
      have HD := Lib.hid hd
      have HN5B := Lib.hid hN5b
      have HN4B := Lib.hid hN4b
      have HG7 := Lib.hid hG7
      have HF7 := Lib.hid hF7
      have HVG := Lib.hid hVg
      have HIG := Lib.hid hIg
      have HVC := Lib.hid hVc
      have hil := (List.getElem?_eq_some_iff.1 ht2).1
      clear hR7 hN5b hN4b hG7 hF7 hd hVg hIg hVc hIc hkv ht2 hb7
      go_wp2_with fail
      go_at_call 109
      refine HD.out.mono ?_
      rintro e W8 ⟨rfl, hdr, hg8⟩
      have hN5c := (hg8.block b5 s7 (fun e => hrb5 (Option.some.inj e).symm)).trans HN5B.out
      have hN4c := (hg8.block b4 (by have := HB5.out; omega) (fun e => hrb4 (Option.some.inj e).symm)).trans HN4B.out
      have HF8 := Lib.hid (HF7.out.keep (W' := W8) (S' := fun b => (wz.setCell ⟨r, 3, none⟩ (.int .i64 ((s.stk.length : Int) + 1))).heap.size ≤ b) fun b hb hlt => ⟨hg8.block b hlt (fun e => by have h9 : b = r := Option.some.inj e; have := HSZ.out; have := HB4.out; have := HB5.out; rw [set_size] at hb; omega), hb⟩)
      have HG8 := Lib.hid (gtrans HG7.out hg8)
      have HDR := Lib.hid hdr
      clear z5 z6 c4 hg8 hdr
      obtain ⟨z0, z1, z2, z3, z4, z5, z6⟩ := fr_cells hN5c
      obtain ⟨v0, v1, v2, v3, v4, v5, v6⟩ := fr_cells hN4c
      have g0 := fr_free hN4c 0
      have g1 := fr_free hN4c 1
      have g2 := fr_free hN4c 2
      have g3 := fr_free hN4c 3
      have g4 := fr_free hN4c 4
      have g5 := fr_free hN4c 5
      have g6 := fr_free hN4c 6
      have HN4C := Lib.hid hN4c
      clear hN4c hN5c
      go_wp2_with fail
      refine frag_ret rfl rfl (set7w_heap HN4C.out (.int .i64 t.kind) (.int .i64 t.num) (.string t.text) (.int .i64 t.at_) (.int .i64 t.mark) (.string t.text) (.slice la ln lc)) rfl ?_
      refine ⟨set7w_gnew HG8.out (by have := HB4.out; omega) _ _ _ _ _ _ _, t, t.text, la, ln, lc, rfl, ?_⟩
      obtain ⟨at8, e8, wh8, h8, hcase⟩ := HDR.out
      have hVV : V ts ws s = _ := HV.out.trans (HVC.out.trans HVG.out)
      rcases hcase with ⟨rfl, rfl, rfl, hbn⟩ | ⟨rfl, q, rfl, hbs⟩
      · rw [hbn] at hVV
        exact .inr ⟨rfl, rfl, l, _, by omega, badAt_none hbn (by omega), hVV, HIG.out hbn, set7w_rd h8 hrb4 _ _ _ _ _ _ _, (set7w_fr HF8.out (g := b4) (by rw [set_size]; have := HSZ.out; have := HB5.out; omega) _ _ _ _ _ _ _).keep fun b hb _ => ⟨rfl, by have := HSZ.out; have := HB4.out; have := HB5.out; rw [set_size] at hb; omega⟩⟩
      · rw [hbs] at hVV
        exact .inl ⟨14, q, _, _, by decide, hVV, set7w_rd h8 hrb4 _ _ _ _ _ _ _⟩
end
end Go.Proofs.YtopbmndjnjnmcaaGreatDoor
namespace Go.Proofs.YtopbmndjnjnmcaaGreatDoor
open Go.RowKit Lx
/- (U6a) -/
theorem own_form {W : World} {base e size n : Nat} {v : Value} {xs : List Value} (h : W.ownsRow base e size v n xs) : ∃ a c, v = .slice a n c := by
  obtain ⟨_, ⟨rfl, h0⟩ | ⟨g, cap, cur, rfl, _⟩⟩ := h
  · exact ⟨none, 0, by rw [h0]⟩
  · exact ⟨_, _, rfl⟩
/-- The list that a group's reading has so far. -/
structure OutI (w W : World) (y : Value) (l : List Fr) (xs : List Value) : Prop where
  own : W.ownsRow w.heap.size 52 7 y l.length xs
  kids : KidsC W (fun b => w.heap.size ≤ b ∧ y.ownBlock ≠ some b) l xs
section
variable {w W W' : World} {y : Value} {l : List Fr} {xs : List Value} {r : Nat}
theorem OutI.gr (h : OutI w W y l xs) (hg : W.grownBy W' (some r)) (hr : r < w.heap.size) : OutI w W' y l xs := by
  refine ⟨owns_keep h.own fun b hb => ?_, h.kids.keep fun b hs hlt => ⟨hg.block b hlt fun e => ?_, hs⟩⟩
  · exact hg.block b (own_lt h.own hb) fun e => by
      have h1 : b = r := Option.some.inj e
      have := own_base h.own hb
      omega
  · have h1 : b = r := Option.some.inj e
    have := hs.1
    omega
theorem OutI.bl (h : OutI w W y l xs) (hb : Below W.heap.size W W') : OutI w W' y l xs :=
  ⟨owns_keep h.own fun b hy => hb.block b (own_lt h.own hy), h.kids.keep fun b hs hlt => ⟨hb.block b hlt, hs⟩⟩
theorem OutI.nil (w W : World) : OutI w W (.slice none 0 0) [] [] := ⟨World.ownsRow_nil _ _ _ _, rfl⟩
theorem OutI.add {f : Fr} {kv : Value} {m g cap : Nat} (h : OutI w W y l xs) (hf : FrRead W (fun b => m ≤ b) kv f.kids) (hm : ∀ b, y.ownBlock = some b → b < m) (hmw : w.heap.size ≤ m)
    (hown : W'.ownsRow w.heap.size 52 7 (.slice (some ⟨g, 0, none⟩) (l.length + 1) cap) (l.length + 1) (xs ++ frC f.tok f.op kv)) (hgrow : W.grownBy W' y.ownBlock) (hat : y.ownBlock = some g ∨ g = W.heap.size) :
    OutI w W' (.slice (some ⟨g, 0, none⟩) (l.length + 1) cap) (l ++ [f]) (xs ++ frC f.tok f.op kv) := by
  refine ⟨by rw [List.length_append]; exact hown, KidsC.add (hf.keep fun b hb hlt => ⟨hgrow.block b hlt fun e => ?_, by omega, fun e => ?_⟩) (h.kids.keep fun b hs hlt => ⟨hgrow.block b hlt fun e => hs.2 e.symm, hs.1, fun e => ?_⟩)⟩
  · have := hm b e.symm; omega
  · have he : g = b := by simpa [Value.ownBlock] using e
    rcases hat with h1 | h1
    · have := hm g h1; omega
    · omega
  · have he : g = b := by simpa [Value.ownBlock] using e
    rcases hat with h1 | h1
    · exact hs.2 (he ▸ h1)
    · omega
theorem OutI.read (h : OutI w W y l xs) : FrRead W (fun b => w.heap.size ≤ b) y l :=
  kids_read h.own rfl h.kids (fun _ hs _ => hs.1) fun _ hb => own_base h.own hb
end
/-- The round of the loop. -/
def LoopR (ts : List Tok) (ws : List ByteArray) (B r : Nat) (vt vw : Value) (s : Rst) (w : World) (k : Nat) (y : Value) (wr : World) : Prop :=
  (∃ (er : Nat) (i at' op' : Int), er ≠ 0 ∧ V ts ws s = .bad er i ∧ RdR B r vt vw at' op' er i wr) ∨
  (∃ (l : List Fr) (xs : List Value) (a : Nat), s.at_ ≤ a ∧ a ≤ ts.length ∧ ts.length < a + k ∧ l.length ≤ a ∧ OutI w wr y l xs ∧ V ts ws s = V ts ws ⟨a, { s.g with kids := l }, s.stk⟩ ∧ Inv ws ⟨a, { s.g with kids := l }, s.stk⟩ ∧ (∀ f ∈ l, tokOk f.tok = true) ∧ RdR B r vt vw a s.stk.length 0 0 wr)
theorem info52y : (Tryz.prog.info? 52).map (fun i => (i.zero, i.size, i.bytes)) = some (some (.agg #[.int .i64 0, .int .i64 0, .string ⟨#[]⟩, .int .i64 0, .int .i64 0, .string ⟨#[]⟩, .slice none 0 0]), 7, 88) := by kernel_rfl
theorem gown {w W W' : World} {row row2 : Option Nat} (h : w.grownBy W row) (k : W.grownBy W' row2) (h2 : ∀ b, row2 = some b → w.heap.size ≤ b) : w.grownBy W' row :=
  ⟨k.os.trans h.os, k.tape.trans h.tape, k.output.trans h.output, Nat.le_trans h.size k.size, fun i hi hr => (k.block i (Nat.lt_of_lt_of_le hi h.size) fun e => by have := h2 i e.symm; omega).trans (h.block i hi hr)⟩
theorem RdR.gro {B r : Nat} {vt vw : Value} {at_ op e wh : Int} {W W' : World} {row : Option Nat} (h : RdR B r vt vw at_ op e wh W) (hg : W.grownBy W' row) (hr : row ≠ some r) : RdR B r vt vw at_ op e wh W' :=
  ⟨h.base, (hg.block r h.lt (Ne.symm hr)).trans h.row⟩
/-- Whether no name opens here. -/
theorem plain_ref {ts : List Tok} {ws : List ByteArray} {s : Rst} {t : Tok} {l : List Fr} {a : Nat} {fr : Int} (hw : okWords ws = true) (hok : tokOk t = true) (hI : Inv ws ⟨a, { s.g with kids := l }, s.stk⟩) (h2 : s.stk ≠ [] → fr = s.g.from_ ∧ 0 ≤ fr) {pm p0 : Bool} (hpm : (s.g.op.toList == [109, 97, 99, 114, 111]) = pm) (hp0 : (l.length == 0) = p0) :
    pOpens ts ws ⟨a, { s.g with kids := l }, s.stk⟩ t = rOpens ts ws a t (pm && p0) ∧ (pm = true → 0 ≤ fr) := by
  have hm : tMacro.toList = [109, 97, 99, 114, 111] := by decide +kernel
  have h1 := opens_ref (ts := ts) hw (s := ⟨a, { s.g with kids := l }, s.stk⟩) (t := t) hok
  rw [h1]
  cases pm with
  | false =>
    simp only [Bool.false_and, hm, hpm]
    exact ⟨by first | rfl | trivial, fun h => by cases h⟩
  | true =>
    have hne : s.g.op.toList ≠ [] := by intro h; rw [h] at hpm; simp at hpm
    have hst : s.stk ≠ [] := by
      intro h
      have := hI.gi
      simp only [h] at this
      have h3 := this.base
      simp only at h3
      rw [h3] at hne
      exact hne (by decide +kernel)
    refine ⟨?_, fun _ => (h2 hst).2⟩
    simp only [hm, hpm, Bool.true_and]
    have ht := hI.top hne
    simp only at ht
    have e : (s.g.from_ == (a : Int) - 1) = p0 := by
      rw [← hp0]
      rcases ht with ⟨e1, e2⟩ | ⟨e1, e2⟩
      · rw [e1, show ((([] : List Fr).length == 0) = true) from rfl, beq_iff_eq]; omega
      · have h5 : l.length ≠ 0 := fun h => e1 (List.eq_nil_of_length_eq_zero h)
        rw [show (l.length == 0) = false by simpa using h5, beq_eq_false_iff_ne]; omega
    rw [e]
end Go.Proofs.YtopbmndjnjnmcaaGreatDoor
namespace Go.Proofs.YtopbmndjnjnmcaaGreatDoor
open Go.RowKit Lx
/- (U6b) -/
attribute [local go_sem] Oper.semAt_some
theorem st_nil {s : Rst} (h : s.g.kids = []) : (⟨s.at_, { s.g with kids := [] }, s.stk⟩ : Rst) = s := by
  obtain ⟨a, ⟨t, op, k, f⟩, st⟩ := s
  cases h
  rfl
section
variable {ts : List Tok} {ws : List ByteArray} {B r : Nat} {vt vw : Value} {w0 : World}
set_option maxRecDepth 100000 in
set_option maxHeartbeats 16000000 in
theorem rList_any (hw : okWords ws = true) (hlen : ts.length ≤ 6000) (hz : ∀ t ∈ ts, t.text.size ≤ maxLen) (hrl : TokLow B vt ts w0) (hwl : StrLow B vw ws w0) (hwn : ∀ n c, vw = .slice none n c → c = 0) (h40 : ws.length ≤ 40) :
    ∀ n, ListC ts ws B r vt vw w0 n := by
  intro n
  induction n with
  | zero => intro s fr w h1 h2; omega
  | succ n ih =>
    intro s fr w h1 h2 hi hk0 hf1 hf2 hd hbw hBw h
    obtain ⟨i0, hi0, hz0, hz1, hz2⟩ := info_parts info52y
    have lr := h.lt
    have hB := h.base
    have HL0 : Hid (LoopR ts ws B r vt vw s w (ts.length - s.at_ + 1) (.slice none 0 0) w) := Lib.hid (.inr ⟨[], [], s.at_, Nat.le_refl _, h2, by omega, by simp, OutI.nil w w, by rw [st_nil hk0], by rw [st_nil hk0]; exact hi, by simp, h⟩)
    have IH := Lib.hid ih
    have HZ := Lib.hid hz
    have HRL := Lib.hid hrl
    have HWL := Lib.hid hwl
    have HWN := Lib.hid hwn
    have HBW := Lib.hid hbw
    have HF1 := Lib.hid hf1
    have HF2 := Lib.hid hf2
    have HW := Lib.hid hw
    clear ih hz hrl hwl hwn hbw hf1 hf2 hw h hi hk0
    go_enter Tryz.func51, Tryz.ntmps51
    go_wp2_with fail
    go_loopg [7] (ts.length - s.at_ + 1) (fun k y wr => (∃ a m c, y = .slice a m c) ∧ Hid (w.grownBy wr (some r)) ∧ Hid (LoopR ts ws B r vt vw s w k y wr))
    case atStart => exact ⟨⟨_, _, _, rfl⟩, Lib.hid (World.grownBy.refl _ _), HL0⟩
    case round =>
      clear HL0
      obtain ⟨⟨ya, yn, yc, rfl⟩, HG, HL⟩ := hrel
      rcases HL.out with ⟨er, i, at', op', her, hVb, hR⟩ | ⟨l, xs, a, ha1, ha2, ha3, ha4, hO, hV, hI, hkv, hR⟩
      · obtain ⟨c0, c1, c2, c3, c4, c5⟩ := hR.cells
        have d6 : ((er : Int) == 0) = false := by simpa using her
        have HR := Lib.hid hR
        have HVB := Lib.hid hVb
        clear hR hVb HL c0 c1 c2 c3 c5
        go_wp2_with fail
        go_quiet (fail)
        by_cases hfr : 0 ≤ fr
        · go_wp2_with fail
          go_at_call 80
          refine (rFail2 (HR.out.bl (below_drewN (Below.refl _ _) nq)) 21 fr).mono ?_
          rintro e W2 ⟨rfl, h2', hg2⟩
          rw [d6] at h2'
          have H2 := Lib.hid h2'
          have HG2 := Lib.hid (gtrans HG.out (gtrans (gbl (below_drewN (Below.refl _ _) nq)) hg2))
          clear h2' hg2
          go_wp2_with fail
          go_ret
          exact ⟨HG2.out, _, _, _, rfl, .inl ⟨er, i, _, _, her, HVB.out, H2.out⟩⟩
        · go_wp2_with fail
          go_ret
          exact ⟨gtrans HG.out (gbl (below_drewN (Below.refl _ _) nq)), _, _, _, rfl, .inl ⟨er, i, _, _, her, HVB.out, HR.out.bl (below_drewN (Below.refl _ _) nq)⟩⟩
      · have hyn : yn = l.length := by obtain ⟨q1, q2, hq⟩ := own_form hO.own; cases hq; rfl
        subst hyn
        have hbr := HBW.out.trans (gbelow HG.out hB hBw)
        obtain ⟨va, vc, hvt, ⟨hl1, hl2⟩, htk⟩ := HRL.out wr hbr
        obtain ⟨c0, c1, c2, c3, c4, c5⟩ := hR.cells
        rw [hvt] at c0
        have HVT := Lib.hid hvt
        have HBR := Lib.hid hbr
        have HR := Lib.hid hR
        have HO := Lib.hid hO
        have HV := Lib.hid hV
        have HI := Lib.hid hI
        have HKV := Lib.hid hkv
        unfold maxLen at hl1
        clear hvt hbr hR hO hV hI hkv HL
        by_cases hlt : a < ts.length
        · obtain ⟨t, ht⟩ : ∃ t, ts[a]? = some t := ⟨_, List.getElem?_eq_getElem hlt⟩
          obtain ⟨k', hkk⟩ : ∃ k', gk = k' + 1 := ⟨gk - 1, by omega⟩
          subst hkk
          obtain ⟨g, o, hva, hg, m0, m1, m2, m3, m4⟩ := htk a t ht
          subst hva
          have HT := Lib.hid ht
          have d1 : decide ((a : Int) < (ts.length : Int)) = true := decide_eq_true (by omega)
          have k1 : (a : Int) < (ts.length : Int) := by omega
          clear htk ht c1 c3 c5
          go_wp2_with fail
          go_quiet (fail)
          obtain ⟨wq, hwq⟩ : ∃ wq, wr.drewN nq = wq := ⟨_, rfl⟩
          have hbq : Below wr.heap.size wr wq := by rw [← hwq]; exact below_drewN (Below.refl _ _) _
          have hsq : wq.heap.size = wr.heap.size := by rw [← hwq]; rfl
          have b0 := (hbq.cell (p := ⟨r, 0, none⟩) (show r < wr.heap.size by have := HG.out.size; omega)).trans c0
          have b2 := (hbq.cell (p := ⟨r, 2, none⟩) (show r < wr.heap.size by have := HG.out.size; omega)).trans c2
          have y0 := (hbq.cell (p := ⟨g, o + a * 5, none⟩) hg).trans m0
          have y1 := (hbq.cell (p := ⟨g, o + a * 5 + 1, none⟩) hg).trans m1
          have y2 := (hbq.cell (p := ⟨g, o + a * 5 + 2, none⟩) hg).trans m2
          have y3 := (hbq.cell (p := ⟨g, o + a * 5 + 3, none⟩) hg).trans m3
          have y4 := (hbq.cell (p := ⟨g, o + a * 5 + 4, none⟩) hg).trans m4
          have HRq := Lib.hid (HR.out.bl hbq)
          have HOq := Lib.hid (HO.out.bl hbq)
          have HGq := Lib.hid (gtrans HG.out (gbl hbq))
          have hTa := (Below.refl wq.heap.size wq).alloc (Nat.le_refl _) (.cells (tokC t) 50)
          have HTA := Lib.hid hTa
          have HGa := Lib.hid (gtrans HGq.out (gbl hTa))
          have HXa := Lib.hid (heap_alloc_new wq (.cells (tokC t) 50))
          have HCK := Lib.hid (rCheck2 (HRq.out.bl hTa) (HRL.out _ (HBW.out.trans (gbelow HGa.out hB hBw))) HT.out (HZ.out t (List.mem_of_getElem? HT.out)))
          have HOa := Lib.hid (HOq.out.bl hTa)
          have HSZa : Hid ((wq.alloc (.cells (tokC t) 50)).heap.size = wq.heap.size + 1) := Lib.hid (World.size_alloc _ _)
          have hwl0 : w.heap.size ≤ wq.heap.size := HGq.out.size
          rw [hwq]
          clear hwq hbq hsq hTa c0 c2 c4 m0 m1 m2 m3 m4 HR HO HG hg
          go_wp2_with fail
          go_at_call 77
          refine HCK.out.mono ?_
          rintro e W5 ⟨rfl, hR5, hg5⟩
          obtain ⟨bx, hbx⟩ : ∃ bx, wq.heap.size = bx := ⟨_, rfl⟩
          have hX5 := (hg5.block wq.heap.size (by rw [World.size_alloc]; omega) (fun e => by have : wq.heap.size = r := Option.some.inj e; omega)).trans HXa.out
          rw [hbx] at hX5 HSZa hwl0 ⊢
          have HX5 := Lib.hid hX5
          have HG5 := Lib.hid (gtrans HGa.out hg5)
          have HO5 := Lib.hid (HOa.out.gr hg5 lr)
          have hs5 := hg5.size
          rw [HSZa.out] at hs5
          clear hg5 hbx hX5 HCK HXa HGa HOa HTA HRq HOq HGq HSZa y0 y1 y2 y3 y4 b0 b2
          obtain ⟨c0, c1, c2, c3, c4, c5⟩ := hR5.cells
          cases hok : tokOk t
          · have e1 : ckE t = 14 := by unfold ckE; rw [hok]; rfl
            have e2 : ckW t (a : Int) 0 = a := by unfold ckW; rw [hok]; rfl
            rw [e1] at c4
            rw [e1, e2] at hR5
            have HR5 := Lib.hid hR5
            clear hR5 e1 e2 c0 c1 c2 c3 c5
            go_wp2_with fail
            go_ret
            refine ⟨HG5.out, _, _, _, rfl, .inl ⟨14, a, _, _, by decide, ?_, HR5.out⟩⟩
            rw [HV.out]; exact V_bad HT.out hok
          · have e1 : ckE t = 0 := by unfold ckE; rw [hok]; rfl
            have e2 : ckW t (a : Int) 0 = 0 := by unfold ckW; rw [hok]; rfl
            rw [e1] at c4
            rw [e1, e2] at hR5
            have f2 := hR5.free 2
            have HR5 := Lib.hid hR5
            clear hR5 e1 e2 c0 c1 c3 c5
            go_upto_region 9 with fail
            obtain ⟨W6, hW6⟩ : ∃ W6, W5.setCell ⟨r, 2, none⟩ (.int .i64 ((a : Int) + 1)) = W6 := ⟨_, rfl⟩
            rw [hW6]
            have hR6 := HR5.out.setAt ((a : Int) + 1)
            have hX6 := (set_ne W5 r 2 (.int .i64 ((a : Int) + 1)) (show bx ≠ r by omega)).trans HX5.out
            have hg6 := gset (World.grownBy.refl W5 (some r)) 2 (.int .i64 ((a : Int) + 1))
            have hs6 := set_size W5 ⟨r, 2, none⟩ (.int .i64 ((a : Int) + 1))
            rw [hW6] at hR6 hX6 hg6 hs6
            have HO6 := Lib.hid (HO5.out.gr hg6 lr)
            have HG6 := Lib.hid (gtrans HG5.out hg6)
            have hbx6 : bx < W6.heap.size := by omega
            have hbw6 : w.heap.size ≤ W6.heap.size := by omega
            rw [show ((a : Int) + 1) = ((a + 1 : Nat) : Int) by omega] at hR6
            have HR6 := Lib.hid hR6
            have HX6 := Lib.hid hX6
            clear hW6 hR6 hg6 hs6 HO5 HG5 HX5 HR5 c2 c4 f2 hs5
            obtain ⟨x0, x1, x2, x3, x4⟩ := tok_cells hX6
            clear hX6
            go_wp2_with fail
            go_at_call 78
            refine (rCloses_any t _).mono ?_
            rintro e W7 ⟨rfl, hb7⟩
            have x0' := (hb7.cell (p := ⟨bx, 0, none⟩) hbx6).trans x0
            have x1' := (hb7.cell (p := ⟨bx, 1, none⟩) hbx6).trans x1
            have x2' := (hb7.cell (p := ⟨bx, 2, none⟩) hbx6).trans x2
            have x3' := (hb7.cell (p := ⟨bx, 3, none⟩) hbx6).trans x3
            have x4' := (hb7.cell (p := ⟨bx, 4, none⟩) hbx6).trans x4
            have HR7 := Lib.hid (HR6.out.bl hb7)
            have HO7 := Lib.hid (HO6.out.bl hb7)
            have HG7 := Lib.hid (gtrans HG6.out (gbl hb7))
            have hbw7 : w.heap.size ≤ W7.heap.size := Nat.le_trans hbw6 hb7.size
            have hbx7 : bx < W7.heap.size := Nat.lt_of_lt_of_le hbx6 hb7.size
            clear hb7 x0 x1 x2 x3 x4 HR6 HO6 HG6 hbw6 hbx6 HX6
            cases hcl : rCl t
            · obtain ⟨pm, hpm⟩ : ∃ pm, (s.g.op.toList == [109, 97, 99, 114, 111]) = pm := ⟨_, rfl⟩
              obtain ⟨p0, hp0⟩ : ∃ p0, (l.length == 0) = p0 := ⟨_, rfl⟩
              obtain ⟨hop, hpf⟩ := plain_ref (ts := ts) (t := t) (fr := fr) HW.out hok HI.out HF2.out hpm hp0
              have hbr7 := HBW.out.trans (gbelow HG7.out hB hBw)
              have HTK7 := Lib.hid (HRL.out _ hbr7)
              have HWD7 := Lib.hid (HWL.out _ hbr7)
              have HOP := Lib.hid hop
              have ha6 : a ≤ 6000 := by omega
              have hyl : (.slice ya l.length yc : Value).ownBlock = (.slice ya l.length yc : Value).ownBlock := rfl
              clear hop hbr7 hyl
              have hcs : (pm = false ∧ (pm && p0) = false) ∨ (pm = true ∧ p0 = true ∧ 0 ≤ fr ∧ l.length = 0) ∨ (pm = true ∧ p0 = false ∧ 0 ≤ fr ∧ l.length ≠ 0) := by
                cases pm
                · exact .inl ⟨rfl, rfl⟩
                · cases p0
                  · exact .inr (.inr ⟨rfl, rfl, hpf rfl, by simpa using hp0⟩)
                  · exact .inr (.inl ⟨rfl, rfl, hpf rfl, by simpa using hp0⟩)
              clear hpf
              rcases hcs with ⟨rfl, hpp⟩ | ⟨rfl, rfl, hfr, hl0⟩ | ⟨rfl, rfl, hfr, hl0⟩
              · rw [hpp] at HOP
                have HOQ : Hid (pOpens ts ws ⟨a, { s.g with kids := l }, s.stk⟩ t = rOpens ts ws a t false) := HOP
                go_wp2_with fail
                go_at_call 81
                refine (rOpens_any HR7.out HTK7.out HWD7.out HWN.out h40 HT.out ha6 false).mono ?_
                rintro e W8 ⟨rfl, hb8⟩
                have v0 := (hb8.cell (p := ⟨bx, 0, none⟩) hbx7).trans x0'
                have v1 := (hb8.cell (p := ⟨bx, 1, none⟩) hbx7).trans x1'
                have v2 := (hb8.cell (p := ⟨bx, 2, none⟩) hbx7).trans x2'
                have v3 := (hb8.cell (p := ⟨bx, 3, none⟩) hbx7).trans x3'
                have v4 := (hb8.cell (p := ⟨bx, 4, none⟩) hbx7).trans x4'
                have HR8 := Lib.hid (HR7.out.bl hb8)
                have HO8 := Lib.hid (HO7.out.bl hb8)
                have HG8 := Lib.hid (gtrans HG7.out (gbl hb8))
                have hbw8 : w.heap.size ≤ W8.heap.size := Nat.le_trans hbw7 hb8.size
                clear hb8 x0' x1' x2' x3' x4' HR7 HO7 HG7 HTK7 HWD7
                cases hro : rOpens ts ws a t false
                · have hop : pOpens ts ws ⟨a, { s.g with kids := l }, s.stk⟩ t = false := HOQ.out.trans hro
                  have HV10 := Lib.hid (HV.out.trans (V_else (s := ⟨a, { s.g with kids := l }, s.stk⟩) HT.out hok hcl hop))
                  have HI10 := Lib.hid (I_else HW.out (s := ⟨a, { s.g with kids := l }, s.stk⟩) HI.out HT.out hok hcl hop)
                  have hba := (Below.refl W8.heap.size W8).alloc (Nat.le_refl _) (.cells #[.int .i64 t.kind, .int .i64 t.num, .string t.text, .int .i64 t.at_, .int .i64 t.mark, .string ⟨#[]⟩, .slice none 0 0] 52)
                  have HOB := Lib.hid (HO8.out.bl hba)
                  have HRB := Lib.hid (HR8.out.bl hba)
                  have HGB := Lib.hid (gtrans HG8.out (gbl hba))
                  clear hba hop
                  go_wp2_with (at_builtin; go_must (refine wpList_append_lies _ rfl (.tmp 88) (.tmp 91) 25 rfl w.heap.size 52 i0 _ 7 88 Tryz.underlying25 hi0 hz0 hz1 hz2 rfl (by omega) (.slice ya l.length yc) l.length xs (by rfl) HOB.out.own ⟨W8.heap.size, 0, none⟩ 1 1 [.int .i64 t.kind, .int .i64 t.num, .string t.text, .int .i64 t.at_, .int .i64 t.mark, .string ⟨#[]⟩, .slice none 0 0] (by rfl) (by rfl) (World.news_of_block (t := 52) (fr := (0, 0)) (heap_alloc_new W8 _)) (by simp [Value.oneCell']) (by omega) (by unfold maxLen; omega) (by omega) (by simp only [World.size_alloc]; omega) (W8.heap.size + 1) (by simp only [World.size_alloc]) ?_); intro gg cap w10 hown1 hgrow hat hgl)
                  have HO10 := Lib.hid (OutI.add (f := .mk t ⟨#[]⟩ []) (m := (W8.alloc (.cells #[.int .i64 t.kind, .int .i64 t.num, .string t.text, .int .i64 t.at_, .int .i64 t.mark, .string ⟨#[]⟩, .slice none 0 0] 52)).heap.size) HOB.out (FrRead.nil _ _ none 0) (fun b hb => own_lt HOB.out.own hb) (by rw [World.size_alloc]; omega) hown1 hgrow (by rw [World.size_alloc]; exact hat))
                  have HG10 := Lib.hid (gown HGB.out hgrow (fun b hb => own_base HOB.out.own hb))
                  have HR10 := Lib.hid (HRB.out.gro hgrow (fun e => by have := own_base HOB.out.own e; omega))
                  clear hown1 hgrow hat hgl
                  go_wp2_with fail
                  go_roundg k'
                  case measure => omega
                  case rel => exact ⟨⟨_, _, _, rfl⟩, HG10, Lib.hid (.inr ⟨_, _, a + 1, by omega, by omega, by omega, by simp only [List.length_append, List.length_cons, List.length_nil]; omega, HO10.out, HV10.out, HI10.out, fun f hf => by rcases List.mem_append.1 hf with h9 | h9; exact HKV.out f h9; obtain rfl := List.mem_singleton.1 h9; exact hok, HR10.out⟩)⟩
                · have hop : pOpens ts ws ⟨a, { s.g with kids := l }, s.stk⟩ t = true := HOQ.out.trans hro
                  have HGP := Lib.hid (rGroup_any (w := W8) IH.out HW.out hlen HZ.out HRL.out (s := ⟨a, { s.g with kids := l }, s.stk⟩) (HBW.out.trans (gbelow HG8.out hB hBw)) (by omega) HI.out HT.out hok hcl hop hd (by simp only; omega) HR8.out)
                  clear hop
                  go_wp2_with fail
                  go_at_call 82
                  refine HGP.out.mono ?_
                  rintro e W9 ⟨hg9, tt, op9, ka, kn, kc, rfl, hcase⟩
                  unfold frC
                  have HCS := Lib.hid hcase
                  have HO9 := Lib.hid (HO8.out.gr hg9 lr)
                  have HG9 := Lib.hid (gtrans HG8.out hg9)
                  have hbw9 : w.heap.size ≤ W9.heap.size := Nat.le_trans hbw8 hg9.size
                  have hs98 : W8.heap.size ≤ W9.heap.size := hg9.size
                  have HS98 := Lib.hid hs98
                  have hba := (Below.refl W9.heap.size W9).alloc (Nat.le_refl _) (.cells #[.int .i64 tt.kind, .int .i64 tt.num, .string tt.text, .int .i64 tt.at_, .int .i64 tt.mark, .string op9, .slice ka kn kc] 52)
                  have HBA := Lib.hid hba
                  have HOB := Lib.hid (HO9.out.bl hba)
                  have HGB := Lib.hid (gtrans HG9.out (gbl hba))
                  clear hba hg9 hcase hs98 v0 v1 v2 v3 v4
                  go_wp2_with (at_builtin; go_must (refine wpList_append_lies _ rfl (.tmp 82) (.tmp 86) 25 rfl w.heap.size 52 i0 _ 7 88 Tryz.underlying25 hi0 hz0 hz1 hz2 rfl (by omega) (.slice ya l.length yc) l.length xs (by rfl) HOB.out.own ⟨W9.heap.size, 0, none⟩ 1 1 [.int .i64 tt.kind, .int .i64 tt.num, .string tt.text, .int .i64 tt.at_, .int .i64 tt.mark, .string op9, .slice ka kn kc] (by rfl) (by rfl) (World.news_of_block (t := 52) (fr := (0, 0)) (heap_alloc_new W9 _)) (by simp [Value.oneCell']) (by omega) (by unfold maxLen; omega) (by omega) (by simp only [World.size_alloc]; omega) (W9.heap.size + 1) (by simp only [World.size_alloc]) ?_); intro gg cap w10 hown1 hgrow hat hgl)
                  have HOWN := Lib.hid hown1
                  have HGW := Lib.hid hgrow
                  have HAT := Lib.hid hat
                  have HG10 := Lib.hid (gown HGB.out hgrow (fun b hb => own_base HOB.out.own hb))
                  have hyr : (.slice ya l.length yc : Value).ownBlock ≠ some r := fun e => by have := own_base HOB.out.own e; omega
                  have HYR := Lib.hid hyr
                  clear hown1 hgrow hat hgl hyr
                  go_wp2_with fail
                  go_roundg k'
                  case measure => omega
                  case rel =>
                    refine ⟨⟨_, _, _, rfl⟩, HG10, Lib.hid ?_⟩
                    rcases HCS.out with ⟨er, ix, at', op', her, hVb, hRb⟩ | ⟨rfl, rfl, l2, a', hq1, hq2, hVc, hIc, hRc, hFc⟩
                    · exact .inl ⟨er, ix, _, _, her, HV.out.trans hVb, (hRb.bl HBA.out).gro HGW.out HYR.out⟩
                    · refine .inr ⟨_, _, a', by have h9 : a < a' := hq1; omega, hq2, by have h9 : a < a' := hq1; omega, ?_, OutI.add (f := .mk tt tt.text l2) (m := W8.heap.size) HOB.out (hFc.bl HBA.out) (fun b hb => own_lt HO8.out.own hb) hbw8 HOWN.out HGW.out (by have := HAT.out; rw [World.size_alloc]; exact this), HV.out.trans hVc, hIc, fun f hf => ?_, (hRc.bl HBA.out).gro HGW.out HYR.out⟩
                      · have h9 : a < a' := hq1; simp only [List.length_append, List.length_cons, List.length_nil]; omega
                      · rcases List.mem_append.1 hf with h9 | h9
                        · exact HKV.out f h9
                        · obtain rfl := List.mem_singleton.1 h9; exact hok
              · have d3 : decide (fr ≥ 0) = true := decide_eq_true hfr
                have d4 : ((l.length : Int) == 0) = true := by simpa using hl0
                clear hl0 hp0
                have HOQ : Hid (pOpens ts ws ⟨a, { s.g with kids := l }, s.stk⟩ t = rOpens ts ws a t true) := HOP
                go_wp2_with fail
                go_at_call 81
                refine (rOpens_any HR7.out HTK7.out HWD7.out HWN.out h40 HT.out ha6 true).mono ?_
                rintro e W8 ⟨rfl, hb8⟩
                have v0 := (hb8.cell (p := ⟨bx, 0, none⟩) hbx7).trans x0'
                have v1 := (hb8.cell (p := ⟨bx, 1, none⟩) hbx7).trans x1'
                have v2 := (hb8.cell (p := ⟨bx, 2, none⟩) hbx7).trans x2'
                have v3 := (hb8.cell (p := ⟨bx, 3, none⟩) hbx7).trans x3'
                have v4 := (hb8.cell (p := ⟨bx, 4, none⟩) hbx7).trans x4'
                have HR8 := Lib.hid (HR7.out.bl hb8)
                have HO8 := Lib.hid (HO7.out.bl hb8)
                have HG8 := Lib.hid (gtrans HG7.out (gbl hb8))
                have hbw8 : w.heap.size ≤ W8.heap.size := Nat.le_trans hbw7 hb8.size
                clear hb8 x0' x1' x2' x3' x4' HR7 HO7 HG7 HTK7 HWD7
                cases hro : rOpens ts ws a t true
                · have hop : pOpens ts ws ⟨a, { s.g with kids := l }, s.stk⟩ t = false := HOQ.out.trans hro
                  have HV10 := Lib.hid (HV.out.trans (V_else (s := ⟨a, { s.g with kids := l }, s.stk⟩) HT.out hok hcl hop))
                  have HI10 := Lib.hid (I_else HW.out (s := ⟨a, { s.g with kids := l }, s.stk⟩) HI.out HT.out hok hcl hop)
                  have hba := (Below.refl W8.heap.size W8).alloc (Nat.le_refl _) (.cells #[.int .i64 t.kind, .int .i64 t.num, .string t.text, .int .i64 t.at_, .int .i64 t.mark, .string ⟨#[]⟩, .slice none 0 0] 52)
                  have HOB := Lib.hid (HO8.out.bl hba)
                  have HRB := Lib.hid (HR8.out.bl hba)
                  have HGB := Lib.hid (gtrans HG8.out (gbl hba))
                  clear hba hop
                  go_wp2_with (at_builtin; go_must (refine wpList_append_lies _ rfl (.tmp 88) (.tmp 91) 25 rfl w.heap.size 52 i0 _ 7 88 Tryz.underlying25 hi0 hz0 hz1 hz2 rfl (by omega) (.slice ya l.length yc) l.length xs (by rfl) HOB.out.own ⟨W8.heap.size, 0, none⟩ 1 1 [.int .i64 t.kind, .int .i64 t.num, .string t.text, .int .i64 t.at_, .int .i64 t.mark, .string ⟨#[]⟩, .slice none 0 0] (by rfl) (by rfl) (World.news_of_block (t := 52) (fr := (0, 0)) (heap_alloc_new W8 _)) (by simp [Value.oneCell']) (by omega) (by unfold maxLen; omega) (by omega) (by simp only [World.size_alloc]; omega) (W8.heap.size + 1) (by simp only [World.size_alloc]) ?_); intro gg cap w10 hown1 hgrow hat hgl)
                  have HO10 := Lib.hid (OutI.add (f := .mk t ⟨#[]⟩ []) (m := (W8.alloc (.cells #[.int .i64 t.kind, .int .i64 t.num, .string t.text, .int .i64 t.at_, .int .i64 t.mark, .string ⟨#[]⟩, .slice none 0 0] 52)).heap.size) HOB.out (FrRead.nil _ _ none 0) (fun b hb => own_lt HOB.out.own hb) (by rw [World.size_alloc]; omega) hown1 hgrow (by rw [World.size_alloc]; exact hat))
                  have HG10 := Lib.hid (gown HGB.out hgrow (fun b hb => own_base HOB.out.own hb))
                  have HR10 := Lib.hid (HRB.out.gro hgrow (fun e => by have := own_base HOB.out.own e; omega))
                  clear hown1 hgrow hat hgl
                  go_wp2_with fail
                  go_roundg k'
                  case measure => omega
                  case rel => exact ⟨⟨_, _, _, rfl⟩, HG10, Lib.hid (.inr ⟨_, _, a + 1, by omega, by omega, by omega, by simp only [List.length_append, List.length_cons, List.length_nil]; omega, HO10.out, HV10.out, HI10.out, fun f hf => by rcases List.mem_append.1 hf with h9 | h9; exact HKV.out f h9; obtain rfl := List.mem_singleton.1 h9; exact hok, HR10.out⟩)⟩
                · have hop : pOpens ts ws ⟨a, { s.g with kids := l }, s.stk⟩ t = true := HOQ.out.trans hro
                  have HGP := Lib.hid (rGroup_any (w := W8) IH.out HW.out hlen HZ.out HRL.out (s := ⟨a, { s.g with kids := l }, s.stk⟩) (HBW.out.trans (gbelow HG8.out hB hBw)) (by omega) HI.out HT.out hok hcl hop hd (by simp only; omega) HR8.out)
                  clear hop
                  go_wp2_with fail
                  go_at_call 82
                  refine HGP.out.mono ?_
                  rintro e W9 ⟨hg9, tt, op9, ka, kn, kc, rfl, hcase⟩
                  unfold frC
                  have HCS := Lib.hid hcase
                  have HO9 := Lib.hid (HO8.out.gr hg9 lr)
                  have HG9 := Lib.hid (gtrans HG8.out hg9)
                  have hbw9 : w.heap.size ≤ W9.heap.size := Nat.le_trans hbw8 hg9.size
                  have hs98 : W8.heap.size ≤ W9.heap.size := hg9.size
                  have HS98 := Lib.hid hs98
                  have hba := (Below.refl W9.heap.size W9).alloc (Nat.le_refl _) (.cells #[.int .i64 tt.kind, .int .i64 tt.num, .string tt.text, .int .i64 tt.at_, .int .i64 tt.mark, .string op9, .slice ka kn kc] 52)
                  have HBA := Lib.hid hba
                  have HOB := Lib.hid (HO9.out.bl hba)
                  have HGB := Lib.hid (gtrans HG9.out (gbl hba))
                  clear hba hg9 hcase hs98 v0 v1 v2 v3 v4
                  go_wp2_with (at_builtin; go_must (refine wpList_append_lies _ rfl (.tmp 82) (.tmp 86) 25 rfl w.heap.size 52 i0 _ 7 88 Tryz.underlying25 hi0 hz0 hz1 hz2 rfl (by omega) (.slice ya l.length yc) l.length xs (by rfl) HOB.out.own ⟨W9.heap.size, 0, none⟩ 1 1 [.int .i64 tt.kind, .int .i64 tt.num, .string tt.text, .int .i64 tt.at_, .int .i64 tt.mark, .string op9, .slice ka kn kc] (by rfl) (by rfl) (World.news_of_block (t := 52) (fr := (0, 0)) (heap_alloc_new W9 _)) (by simp [Value.oneCell']) (by omega) (by unfold maxLen; omega) (by omega) (by simp only [World.size_alloc]; omega) (W9.heap.size + 1) (by simp only [World.size_alloc]) ?_); intro gg cap w10 hown1 hgrow hat hgl)
                  have HOWN := Lib.hid hown1
                  have HGW := Lib.hid hgrow
                  have HAT := Lib.hid hat
                  have HG10 := Lib.hid (gown HGB.out hgrow (fun b hb => own_base HOB.out.own hb))
                  have hyr : (.slice ya l.length yc : Value).ownBlock ≠ some r := fun e => by have := own_base HOB.out.own e; omega
                  have HYR := Lib.hid hyr
                  clear hown1 hgrow hat hgl hyr
                  go_wp2_with fail
                  go_roundg k'
                  case measure => omega
                  case rel =>
                    refine ⟨⟨_, _, _, rfl⟩, HG10, Lib.hid ?_⟩
                    rcases HCS.out with ⟨er, ix, at', op', her, hVb, hRb⟩ | ⟨rfl, rfl, l2, a', hq1, hq2, hVc, hIc, hRc, hFc⟩
                    · exact .inl ⟨er, ix, _, _, her, HV.out.trans hVb, (hRb.bl HBA.out).gro HGW.out HYR.out⟩
                    · refine .inr ⟨_, _, a', by have h9 : a < a' := hq1; omega, hq2, by have h9 : a < a' := hq1; omega, ?_, OutI.add (f := .mk tt tt.text l2) (m := W8.heap.size) HOB.out (hFc.bl HBA.out) (fun b hb => own_lt HO8.out.own hb) hbw8 HOWN.out HGW.out (by have := HAT.out; rw [World.size_alloc]; exact this), HV.out.trans hVc, hIc, fun f hf => ?_, (hRc.bl HBA.out).gro HGW.out HYR.out⟩
                      · have h9 : a < a' := hq1; simp only [List.length_append, List.length_cons, List.length_nil]; omega
                      · rcases List.mem_append.1 hf with h9 | h9
                        · exact HKV.out f h9
                        · obtain rfl := List.mem_singleton.1 h9; exact hok
              · have d3 : decide (fr ≥ 0) = true := decide_eq_true hfr
                have d4 : ((l.length : Int) == 0) = false := by simpa using hl0
                have HOQ : Hid (pOpens ts ws ⟨a, { s.g with kids := l }, s.stk⟩ t = rOpens ts ws a t false) := HOP
                go_wp2_with fail
                go_at_call 81
                refine (rOpens_any HR7.out HTK7.out HWD7.out HWN.out h40 HT.out ha6 false).mono ?_
                rintro e W8 ⟨rfl, hb8⟩
                have v0 := (hb8.cell (p := ⟨bx, 0, none⟩) hbx7).trans x0'
                have v1 := (hb8.cell (p := ⟨bx, 1, none⟩) hbx7).trans x1'
                have v2 := (hb8.cell (p := ⟨bx, 2, none⟩) hbx7).trans x2'
                have v3 := (hb8.cell (p := ⟨bx, 3, none⟩) hbx7).trans x3'
                have v4 := (hb8.cell (p := ⟨bx, 4, none⟩) hbx7).trans x4'
                have HR8 := Lib.hid (HR7.out.bl hb8)
                have HO8 := Lib.hid (HO7.out.bl hb8)
                have HG8 := Lib.hid (gtrans HG7.out (gbl hb8))
                have hbw8 : w.heap.size ≤ W8.heap.size := Nat.le_trans hbw7 hb8.size
                clear hb8 x0' x1' x2' x3' x4' HR7 HO7 HG7 HTK7 HWD7
                cases hro : rOpens ts ws a t false
                · have hop : pOpens ts ws ⟨a, { s.g with kids := l }, s.stk⟩ t = false := HOQ.out.trans hro
                  have HV10 := Lib.hid (HV.out.trans (V_else (s := ⟨a, { s.g with kids := l }, s.stk⟩) HT.out hok hcl hop))
                  have HI10 := Lib.hid (I_else HW.out (s := ⟨a, { s.g with kids := l }, s.stk⟩) HI.out HT.out hok hcl hop)
                  have hba := (Below.refl W8.heap.size W8).alloc (Nat.le_refl _) (.cells #[.int .i64 t.kind, .int .i64 t.num, .string t.text, .int .i64 t.at_, .int .i64 t.mark, .string ⟨#[]⟩, .slice none 0 0] 52)
                  have HOB := Lib.hid (HO8.out.bl hba)
                  have HRB := Lib.hid (HR8.out.bl hba)
                  have HGB := Lib.hid (gtrans HG8.out (gbl hba))
                  clear hba hop
                  go_wp2_with (at_builtin; go_must (refine wpList_append_lies _ rfl (.tmp 88) (.tmp 91) 25 rfl w.heap.size 52 i0 _ 7 88 Tryz.underlying25 hi0 hz0 hz1 hz2 rfl (by omega) (.slice ya l.length yc) l.length xs (by rfl) HOB.out.own ⟨W8.heap.size, 0, none⟩ 1 1 [.int .i64 t.kind, .int .i64 t.num, .string t.text, .int .i64 t.at_, .int .i64 t.mark, .string ⟨#[]⟩, .slice none 0 0] (by rfl) (by rfl) (World.news_of_block (t := 52) (fr := (0, 0)) (heap_alloc_new W8 _)) (by simp [Value.oneCell']) (by omega) (by unfold maxLen; omega) (by omega) (by simp only [World.size_alloc]; omega) (W8.heap.size + 1) (by simp only [World.size_alloc]) ?_); intro gg cap w10 hown1 hgrow hat hgl)
                  have HO10 := Lib.hid (OutI.add (f := .mk t ⟨#[]⟩ []) (m := (W8.alloc (.cells #[.int .i64 t.kind, .int .i64 t.num, .string t.text, .int .i64 t.at_, .int .i64 t.mark, .string ⟨#[]⟩, .slice none 0 0] 52)).heap.size) HOB.out (FrRead.nil _ _ none 0) (fun b hb => own_lt HOB.out.own hb) (by rw [World.size_alloc]; omega) hown1 hgrow (by rw [World.size_alloc]; exact hat))
                  have HG10 := Lib.hid (gown HGB.out hgrow (fun b hb => own_base HOB.out.own hb))
                  have HR10 := Lib.hid (HRB.out.gro hgrow (fun e => by have := own_base HOB.out.own e; omega))
                  clear hown1 hgrow hat hgl
                  go_wp2_with fail
                  go_roundg k'
                  case measure => omega
                  case rel => exact ⟨⟨_, _, _, rfl⟩, HG10, Lib.hid (.inr ⟨_, _, a + 1, by omega, by omega, by omega, by simp only [List.length_append, List.length_cons, List.length_nil]; omega, HO10.out, HV10.out, HI10.out, fun f hf => by rcases List.mem_append.1 hf with h9 | h9; exact HKV.out f h9; obtain rfl := List.mem_singleton.1 h9; exact hok, HR10.out⟩)⟩
                · have hop : pOpens ts ws ⟨a, { s.g with kids := l }, s.stk⟩ t = true := HOQ.out.trans hro
                  have HGP := Lib.hid (rGroup_any (w := W8) IH.out HW.out hlen HZ.out HRL.out (s := ⟨a, { s.g with kids := l }, s.stk⟩) (HBW.out.trans (gbelow HG8.out hB hBw)) (by omega) HI.out HT.out hok hcl hop hd (by simp only; omega) HR8.out)
                  clear hop
                  go_wp2_with fail
                  go_at_call 82
                  refine HGP.out.mono ?_
                  rintro e W9 ⟨hg9, tt, op9, ka, kn, kc, rfl, hcase⟩
                  unfold frC
                  have HCS := Lib.hid hcase
                  have HO9 := Lib.hid (HO8.out.gr hg9 lr)
                  have HG9 := Lib.hid (gtrans HG8.out hg9)
                  have hbw9 : w.heap.size ≤ W9.heap.size := Nat.le_trans hbw8 hg9.size
                  have hs98 : W8.heap.size ≤ W9.heap.size := hg9.size
                  have HS98 := Lib.hid hs98
                  have hba := (Below.refl W9.heap.size W9).alloc (Nat.le_refl _) (.cells #[.int .i64 tt.kind, .int .i64 tt.num, .string tt.text, .int .i64 tt.at_, .int .i64 tt.mark, .string op9, .slice ka kn kc] 52)
                  have HBA := Lib.hid hba
                  have HOB := Lib.hid (HO9.out.bl hba)
                  have HGB := Lib.hid (gtrans HG9.out (gbl hba))
                  clear hba hg9 hcase hs98 v0 v1 v2 v3 v4
                  go_wp2_with (at_builtin; go_must (refine wpList_append_lies _ rfl (.tmp 82) (.tmp 86) 25 rfl w.heap.size 52 i0 _ 7 88 Tryz.underlying25 hi0 hz0 hz1 hz2 rfl (by omega) (.slice ya l.length yc) l.length xs (by rfl) HOB.out.own ⟨W9.heap.size, 0, none⟩ 1 1 [.int .i64 tt.kind, .int .i64 tt.num, .string tt.text, .int .i64 tt.at_, .int .i64 tt.mark, .string op9, .slice ka kn kc] (by rfl) (by rfl) (World.news_of_block (t := 52) (fr := (0, 0)) (heap_alloc_new W9 _)) (by simp [Value.oneCell']) (by omega) (by unfold maxLen; omega) (by omega) (by simp only [World.size_alloc]; omega) (W9.heap.size + 1) (by simp only [World.size_alloc]) ?_); intro gg cap w10 hown1 hgrow hat hgl)
                  have HOWN := Lib.hid hown1
                  have HGW := Lib.hid hgrow
                  have HAT := Lib.hid hat
                  have HG10 := Lib.hid (gown HGB.out hgrow (fun b hb => own_base HOB.out.own hb))
                  have hyr : (.slice ya l.length yc : Value).ownBlock ≠ some r := fun e => by have := own_base HOB.out.own e; omega
                  have HYR := Lib.hid hyr
                  clear hown1 hgrow hat hgl hyr
                  go_wp2_with fail
                  go_roundg k'
                  case measure => omega
                  case rel =>
                    refine ⟨⟨_, _, _, rfl⟩, HG10, Lib.hid ?_⟩
                    rcases HCS.out with ⟨er, ix, at', op', her, hVb, hRb⟩ | ⟨rfl, rfl, l2, a', hq1, hq2, hVc, hIc, hRc, hFc⟩
                    · exact .inl ⟨er, ix, _, _, her, HV.out.trans hVb, (hRb.bl HBA.out).gro HGW.out HYR.out⟩
                    · refine .inr ⟨_, _, a', by have h9 : a < a' := hq1; omega, hq2, by have h9 : a < a' := hq1; omega, ?_, OutI.add (f := .mk tt tt.text l2) (m := W8.heap.size) HOB.out (hFc.bl HBA.out) (fun b hb => own_lt HO8.out.own hb) hbw8 HOWN.out HGW.out (by have := HAT.out; rw [World.size_alloc]; exact this), HV.out.trans hVc, hIc, fun f hf => ?_, (hRc.bl HBA.out).gro HGW.out HYR.out⟩
                      · have h9 : a < a' := hq1; simp only [List.length_append, List.length_cons, List.length_nil]; omega
                      · rcases List.mem_append.1 hf with h9 | h9
                        · exact HKV.out f h9
                        · obtain rfl := List.mem_singleton.1 h9; exact hok
            · by_cases hfr : fr < 0
              · have hst : s.stk = [] := by
                  cases hs : s.stk with
                  | nil => rfl
                  | cons p q => exact absurd (HF2.out (by rw [hs]; simp)).2 (by omega)
                go_wp2_with fail
                go_at_call 80
                refine (rFail2 HR7.out 20 a).mono ?_
                rintro e W8 ⟨rfl, hR8, hg8⟩
                have HR8 := Lib.hid hR8
                have HG8 := Lib.hid (gtrans HG7.out hg8)
                clear hR8 hg8
                go_wp2_with fail
                go_ret
                refine ⟨HG8.out, _, _, _, rfl, .inl ⟨20, a, _, _, by decide, ?_, HR8.out⟩⟩
                rw [HV.out]; exact V_stray HW.out HI.out HT.out hok hcl (.inl hst)
              · have hst : s.stk ≠ [] := fun e => by have := HF1.out e; omega
                have hfr2 : 0 ≤ fr := by omega
                have d3 : decide (fr < 0) = false := decide_eq_false hfr
                go_wp2_with fail
                go_at_call 79
                refine (rFits_any t s.g.op _).mono ?_
                rintro e W8 ⟨rfl, hb8⟩
                have HR8 := Lib.hid (HR7.out.bl hb8)
                have HO8 := Lib.hid (HO7.out.bl hb8)
                have HG8 := Lib.hid (gtrans HG7.out (gbl hb8))
                clear hb8 x0' x1' x2' x3' x4' HR7 HO7 HG7
                cases hft : rFits t s.g.op
                · go_wp2_with fail
                  go_at_call 80
                  refine (rFail2 HR8.out 20 a).mono ?_
                  rintro e W9 ⟨rfl, hR9, hg9⟩
                  have HR9 := Lib.hid hR9
                  have HG9 := Lib.hid (gtrans HG8.out hg9)
                  clear hR9 hg9
                  go_wp2_with fail
                  go_ret
                  refine ⟨HG9.out, _, _, _, rfl, .inl ⟨20, a, _, _, by decide, ?_, HR9.out⟩⟩
                  rw [HV.out]; exact V_stray HW.out HI.out HT.out hok hcl (.inr hft)
                · have HFR := Lib.hid HO8.out.read
                  go_wp2_with fail
                  go_ret
                  exact ⟨HG8.out, _, _, _, rfl, .inr (.inr ⟨hst, l, a, t, HT.out, hok, hcl, hft, ha1, HV.out, HI.out, HKV.out, HR8.out, HFR.out⟩)⟩
        · have hae : a = ts.length := by omega
          have d1 : decide ((a : Int) < (ts.length : Int)) = false := decide_eq_false (by omega)
          have hVE : V ts ws s = if s.stk.length = 0 then .ok l else .bad 21 s.g.from_ := by
            rw [HV.out]; exact V_end (by simp only; omega)
          have HVE := Lib.hid hVE
          have HFR := Lib.hid HO.out.read
          clear hVE htk c1 c3 c5
          go_wp2_with fail
          go_quiet (fail)
          by_cases hfr : 0 ≤ fr
          · have hne : s.stk ≠ [] := fun e => by have := HF1.out e; omega
            have hse : s.stk.length ≠ 0 := fun e => hne (List.eq_nil_of_length_eq_zero e)
            go_wp2_with fail
            go_at_call 80
            refine (rFail2 (HR.out.bl (below_drewN (Below.refl _ _) nq)) 21 fr).mono ?_
            rintro e W2 ⟨rfl, h2', hg2⟩
            have H2 := Lib.hid h2'
            have HG2 := Lib.hid (gtrans HG.out (gtrans (gbl (below_drewN (Below.refl _ _) nq)) hg2))
            clear h2' hg2
            go_wp2_with fail
            go_ret
            refine ⟨HG2.out, _, _, _, rfl, .inl ⟨21, fr, _, _, by decide, ?_, H2.out⟩⟩
            rw [HVE.out, if_neg hse, (HF2.out hne).1]
          · have hst : s.stk = [] := by
              cases hs : s.stk with
              | nil => rfl
              | cons p q => exact absurd (HF2.out (by rw [hs]; simp)).2 hfr
            have hse : s.stk.length = 0 := by rw [hst]; rfl
            go_wp2_with fail
            go_ret
            refine ⟨gtrans HG.out (gbl (below_drewN (Below.refl _ _) nq)), _, _, _, rfl, .inr (.inl ⟨hst, l, a, ?_, ?_, HFR.out.bl (below_drewN (Below.refl _ _) nq)⟩)⟩
            · rw [HVE.out, if_pos hse]
            · have := HR.out.bl (below_drewN (Below.refl _ _) nq)
              rw [hse] at this
              exact this
end
end Go.Proofs.YtopbmndjnjnmcaaGreatDoor
