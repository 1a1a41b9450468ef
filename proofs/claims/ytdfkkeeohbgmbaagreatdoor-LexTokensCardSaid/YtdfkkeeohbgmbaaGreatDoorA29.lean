/- Package lex: Update. -/
import Derived.Test.YtdfkkeeohbgmbaaGreatDoorA28
import Derived.Deep.RegionHeld3
import Derived.Deep.DrawnRows
import Derived.BigQuiet
import Derived.Deep.DeepCutAuto
namespace Go.Proofs.YtdfkkeeohbgmbaaGreatDoor
open Go.RowKit Lx

attribute [local go_sem] Oper.semAt_some

theorem qCutAll_er (l : Bs) (n : Nat) : ∀ (x : St) (p : Nat × Nat), (qCutAll l n x).2 = some p → p.1 ≠ 0 := by
  induction n with
  | zero => intro x p h; simp [qCutAll] at h
  | succ n ih =>
    intro x p h
    simp only [qCutAll] at h
    split at h
    · simp at h
    · split at h
      · rename_i h2; simp at h; subst h; exact h2
      · split at h
        · simp at h; subst h; simp
        · exact ih _ p h
theorem qPieces_er (l : Bs) (p : Nat × Nat) (h : (qPieces l).2 = some p) : p.1 ≠ 0 := by
  unfold qPieces at h; split at h
  · simp at h; subst h; simp
  · exact qCutAll_er l _ _ p h
theorem qErr_zero (l : Bs) : qErr l = 0 ↔ (qPieces l).2 = none := by
  unfold qErr
  cases h : (qPieces l).2 with
  | none => simp
  | some p => have := qPieces_er l p h; simpa using this
theorem qGood_ok (l : Bs) (h : (qPieces l).2 = none) : qGood l = (qPieces l).1 := if_pos h

/-- How Update ends. -/
def UpEnd (s ins : ByteArray) (x d : Int) (ps : List Pn) (base : Nat) (e : Ending) (W : World) : Prop :=
  (¬ ((qPieces s.data.toList).2 = none ∧ ps = (qPieces s.data.toList).1.map Pc.n) ∧ e = .returned (.tuple #[.slice none 0 0, .agg #[.int .i64 0, .int .i64 0], .int .i64 0, .int .i64 15])) ∨
  ((qPieces s.data.toList).2 = none ∧ ps = (qPieces s.data.toList).1.map Pc.n ∧ ((¬ Fits s x d ∧ e = .returned (.tuple #[.slice none 0 0, .agg #[.int .i64 0, .int .i64 0], .int .i64 0, .int .i64 1])) ∨
    ∃ x' d' : Nat, x = x' ∧ d = d' ∧ x' ≤ s.size ∧ d' ≤ s.size - x' ∧
      (((qPieces (spliced s x' d' ins).data.toList).2 = none ∧ ∃ v, W.ownsRow base 59 3 v (qPieces (spliced s x' d' ins).data.toList).1.length (pcsCells (qPieces (spliced s x' d' ins).data.toList).1) ∧ (v = .slice none 0 0 ↔ (qPieces (spliced s x' d' ins).data.toList).1 = []) ∧
        e = .returned (.tuple #[v, .agg #[.int .i64 (qKept ps ((qPieces (spliced s x' d' ins).data.toList).1.map Pc.n) ((ins.size : Int) - d')).1, .int .i64 (qKept ps ((qPieces (spliced s x' d' ins).data.toList).1.map Pc.n) ((ins.size : Int) - d')).2], .int .i64 0, .int .i64 0])) ∨
       ∃ er i, (qPieces (spliced s x' d' ins).data.toList).2 = some (er, i) ∧ e = .returned (.tuple #[.slice none 0 0, .agg #[.int .i64 0, .int .i64 0], .int .i64 i, .int .i64 er]))))


/-- What Update holds. -/
structure UI (w : World) (x d : Int) (ins : ByteArray) (v : Value) (a b i e : Int) (W : World) : Prop where
  res : Res4 w.heap.size v a b i e W
  spl : W.heap[w.heap.size]? = some (.cells #[.int .i64 x, .int .i64 d, .string ins] 40 (0, 0))
  env : Env W
  bel : Below w.heap.size w W

section
variable {w : World} {x d : Int} {ins : ByteArray} {v : Value} {a b i e : Int} {W W' : World}
theorem UI.bl (h : UI w x d ins v a b i e W) (hb : Below W.heap.size W W') : UI w x d ins v a b i e W' := ⟨h.res.bl hb, heap_bl h.spl hb, h.env.below hb, h.bel.trans (hb.mono h.bel.size)⟩
theorem UI.put (h : UI w x d ins v a b i e W) (h6 : 6 ≤ w.heap.size) (v' : Value) (a' b' i' e' : Int) : UI w x d ins v' a' b' i' e' (put4 w.heap.size v' a' b' i' e' W) := by
  obtain ⟨g, hb⟩ := h.res.put v' a' b' i' e'
  exact ⟨g, (hb.block _ (by omega)).trans h.spl, h.env.low (hb.mono (by omega)), h.bel.trans (hb.mono (by omega))⟩
theorem UI.set4 (h : UI w x d ins v a b i e W) (h6 : 6 ≤ w.heap.size) (e' : Int) : UI w x d ins v a b i e' (W.setCell ⟨w.heap.size + 4, 0, none⟩ (.int .i64 e')) := by
  have hb := (Below.refl (w.heap.size + 1) W).setCell (p := ⟨w.heap.size + 4, 0, none⟩) (by simp) (.int .i64 e')
  exact ⟨⟨bo (by omega) _ h.res.r1, h.res.r2.other (by omega) _, bo (by omega) _ h.res.r3, h.res.r4.set _⟩, (hb.block _ (by omega)).trans h.spl, h.env.low (hb.mono (by omega)), h.bel.trans (hb.mono (by omega))⟩
theorem UI.set1 (h : UI w x d ins v a b i e W) (h6 : 6 ≤ w.heap.size) (v' : Value) : UI w x d ins v' a b i e (W.setCell ⟨w.heap.size + 1, 0, none⟩ v') := by
  have hb := (Below.refl (w.heap.size + 1) W).setCell (p := ⟨w.heap.size + 1, 0, none⟩) (by simp) v'
  exact ⟨⟨h.res.r1.set _, h.res.r2.other (by omega) _, bo (by omega) _ h.res.r3, bo (by omega) _ h.res.r4⟩, (hb.block _ (by omega)).trans h.spl, h.env.low (hb.mono (by omega)), h.bel.trans (hb.mono (by omega))⟩
theorem UI.cells (h : UI w x d ins v a b i e W) : W.cell? ⟨w.heap.size, 0, none⟩ = some (.int .i64 x) ∧ W.cell? ⟨w.heap.size, 1, none⟩ = some (.int .i64 d) ∧ W.cell? ⟨w.heap.size, 2, none⟩ = some (.string ins) ∧
    W.cell? ⟨w.heap.size + 1, 0, none⟩ = some v ∧ W.cell? ⟨w.heap.size + 2, 0, none⟩ = some (.int .i64 a) ∧ W.cell? ⟨w.heap.size + 2, 1, none⟩ = some (.int .i64 b) ∧ W.cell? ⟨w.heap.size + 3, 0, none⟩ = some (.int .i64 i) ∧ W.cell? ⟨w.heap.size + 4, 0, none⟩ = some (.int .i64 e) ∧
    W.frozen? ⟨w.heap.size + 1, 0, none⟩ = false ∧ W.frozen? ⟨w.heap.size + 2, 0, none⟩ = false ∧ W.frozen? ⟨w.heap.size + 2, 1, none⟩ = false ∧ W.frozen? ⟨w.heap.size + 3, 0, none⟩ = false ∧ W.frozen? ⟨w.heap.size + 4, 0, none⟩ = false ∧ w.heap.size + 4 < W.heap.size := by
  obtain ⟨s0, s1, s2, _, _, _⟩ := cells3 h.spl
  obtain ⟨p0, p1, q0, q1⟩ := cells2 h.res.r2
  exact ⟨s0, s1, s2, h.res.r1.cell, p0, p1, h.res.r3.cell, h.res.r4.cell, h.res.r1.frozen, q0, q1, h.res.r3.frozen, h.res.r4.frozen, h.res.r4.lt⟩
end

theorem owns_far {W W' : World} {base n : Nat} {v : Value} {xs : List Value} (h : W.ownsRow base 59 3 v n xs) {b : Nat} {o : Obj} (hb : W.heap[b]? = some o) (hne : ∀ cs fr, o ≠ .cells cs 59 fr) (hg : W.grownBy W' (some b)) : W'.ownsRow base 59 3 v n xs :=
  h.kept hg (.inr (not_own h hb hne))
theorem owns_put4 {B : Nat} {v : Value} {a b i e : Int} {W : World} {base n : Nat} {u : Value} {xs : List Value} (r : Res4 B v a b i e W) (h : W.ownsRow base 59 3 u n xs) (v' : Value) (a' b' i' e' : Int) : (put4 B v' a' b' i' e' W).ownsRow base 59 3 u n xs := by
  obtain ⟨r1, r2, r3, r4⟩ := r
  have h1 := owns_far h r1 (by simp) (grown_set W (B + 1) 0 v')
  have q2 := r2.other (B' := B + 1) (j := 0) (by omega) v'
  have h2 := owns_far h1 q2 (by simp) (grown_set _ (B + 2) 0 (.int .i64 a'))
  have h3 := owns_far h2 (heap_set _ (B + 2) 0 _ _ _ _ q2) (by simp) (grown_set _ (B + 2) 1 (.int .i64 b'))
  have q3 := bo (B' := B + 2) (j := 1) (by omega) (.int .i64 b') (bo (B' := B + 2) (j := 0) (by omega) (.int .i64 a') (bo (B' := B + 1) (j := 0) (by omega) v' r3))
  have h4 := owns_far h3 q3 (by simp) (grown_set _ (B + 3) 0 (.int .i64 i'))
  have q4 := bo (B' := B + 3) (j := 0) (by omega) (.int .i64 i') (bo (B' := B + 2) (j := 1) (by omega) (.int .i64 b') (bo (B' := B + 2) (j := 0) (by omega) (.int .i64 a') (bo (B' := B + 1) (j := 0) (by omega) v' r4)))
  exact owns_far h4 q4 (by simp) (grown_set _ (B + 4) 0 (.int .i64 e'))
theorem owns_low {W : World} {base base' n : Nat} {v : Value} {xs : List Value} (h : W.ownsRow base 59 3 v n xs) (hb : base' ≤ base) : W.ownsRow base' 59 3 v n xs :=
  ⟨h.1, h.2.imp id (fun ⟨g, cap, cur, h1, h2, h3⟩ => ⟨g, cap, cur, h1, Nat.le_trans hb h2, h3⟩)⟩

theorem five (w : World) (o0 o1 o2 o3 o4 : Obj) :
    (((((w.alloc o0).alloc o1).alloc o2).alloc o3).alloc o4).heap[w.heap.size]? = some o0 ∧
    (((((w.alloc o0).alloc o1).alloc o2).alloc o3).alloc o4).heap[w.heap.size + 1]? = some o1 ∧
    (((((w.alloc o0).alloc o1).alloc o2).alloc o3).alloc o4).heap[w.heap.size + 2]? = some o2 ∧
    (((((w.alloc o0).alloc o1).alloc o2).alloc o3).alloc o4).heap[w.heap.size + 3]? = some o3 ∧
    (((((w.alloc o0).alloc o1).alloc o2).alloc o3).alloc o4).heap[w.heap.size + 4]? = some o4 ∧
    Below w.heap.size w (((((w.alloc o0).alloc o1).alloc o2).alloc o3).alloc o4) := by
  refine ⟨?_, ?_, ?_, ?_, ?_, ?_⟩
  rotate_left 5
  · exact (((((Below.refl _ w).alloc (by simp) _).alloc (by simp) _).alloc (by simp; try omega) _).alloc (by simp; try omega) _).alloc (by simp; try omega) _
  all_goals
    simp only [World.alloc]
    simp only [Array.getElem?_push, Array.size_push]
    repeat first | rw [if_neg (by omega)] | rw [if_pos (by omega)] | rfl

set_option maxRecDepth 100000 in
set_option maxHeartbeats 4000000 in
theorem update_in (s ins : ByteArray) (x d : Int) (v : Value) (ps : List Pn) (hm : s.size + ins.size ≤ maxLen) (w : World) (he : Env w) (hv : PnRead w v ps) :
    CallsIn Fence.wide 2 Tryz.prog 35 #[.string s, v, SpV x d ins] w fun e W => UpEnd s ins x d ps w.heap.size e W ∧ Below w.heap.size w W := by
  have h6 := he.size
  have HE := Lib.hid he
  have HV := Lib.hid hv
  obtain ⟨aa, ca, rfl, _⟩ := hv
  clear he
  have hms : s.size ≤ maxLen := by omega
  have HM := Lib.hid hm
  clear hm
  unfold SpV
  refine callsIn_of_wp_marks Tryz.func35 rfl trivial ?_ rfl
  simp only [Tryz.ntmps35, List.size_toArray, List.length_cons, List.length_nil, Nat.reduceAdd, Nat.reduceSub, Array.replicate_succ, Array.replicate_zero, List.push_toArray, List.append_toArray, List.nil_append, List.cons_append]
  have hmf : ∀ (fn : Fn) (first cap : Array Value) (w : World), (Instr.makeFunc fn first cap).run Tryz.prog w = .ok (.func fn first cap) w := fun _ _ _ _ => rfl
  refine wpIn_wide.2 ?_
  go_upto_region 2 with fail
  simp only [Nat.add_assoc, Nat.reduceAdd]
  obtain ⟨W0, hW0⟩ : ∃ W0, (((((w.alloc (.cells #[.int .i64 x, .int .i64 d, .string ins] 40)).alloc (.cells #[.slice none 0 0] 23)).alloc (.cells #[.int .i64 0, .int .i64 0] 55)).alloc (.cells #[.int .i64 0] 3)).alloc (.cells #[.int .i64 0] 24)) = W0 := ⟨_, rfl⟩
  have H0 : Hid (UI w x d ins (.slice none 0 0) 0 0 0 0 W0) := Lib.hid (by
    obtain ⟨a0, a1, a2, a3, a4, ab⟩ := five w (.cells #[.int .i64 x, .int .i64 d, .string ins] 40) (.cells #[.slice none 0 0] 23) (.cells #[.int .i64 0, .int .i64 0] 55) (.cells #[.int .i64 0] 3) (.cells #[.int .i64 0] 24)
    rw [hW0] at a0 a1 a2 a3 a4 ab
    exact ⟨⟨a1, a2, a3, a4⟩, a0, HE.out.below ab, ab⟩)
  rw [hW0]
  clear hW0
  go_wp2_with fail
  refine (pieces_good s hms _ H0.out.env).mono ?_
  rintro e W1 ⟨pv, rfl, hown, _, hb1⟩
  have H1 := Lib.hid (H0.out.bl hb1)
  have HR := Lib.hid (pn_read hown (Nat.le_trans (qGood_length _) (by unfold maxLen; omega)))
  have HV1 := Lib.hid (HV.out.bl H1.out.bel)
  obtain ⟨pa, pn, pc, rfl⟩ := ownsRow_slice hown
  clear hown hb1
  cases her : ((qErr s.data.toList : Int) != 0)
  · have hnone : (qPieces s.data.toList).2 = none := (qErr_zero _).1 (by simp at her; omega)
    have HNo := Lib.hid hnone
    rw [qGood_ok _ hnone] at HR
    clear hnone
    go_wp2_with fail
    refine (equal_any _ _ ps _ _ HV1.out HR.out).mono ?_
    rintro e W2 ⟨rfl, hb2⟩
    have H2 := Lib.hid (H1.out.bl hb2)
    cases heq : decide (ps = (qPieces s.data.toList).1.map Pc.n)
    · obtain ⟨s0, s1, s2, c1, c2, c2b, c3, c4, f1, f2, f2b, f3, f4, l4⟩ := H2.out.cells
      go_wp2_with fail
      have H3 := Lib.hid (H2.out.put h6 (.slice none 0 0) 0 0 0 15)
      refine ⟨by simp, .inr ⟨fun _ => by omega, _, _, 51, #[.pointer (some ⟨w.heap.size + 1, 0, none⟩), .pointer (some ⟨w.heap.size + 2, 0, none⟩), .pointer (some ⟨w.heap.size + 3, 0, none⟩), .pointer (some ⟨w.heap.size + 4, 0, none⟩)], rfl, by simp [invoke, go_sem], fun _ _ => trivial, (catchU_idle _ _ _ _ _).mono ?_⟩⟩
      rintro e u' W4 ⟨rfl, rfl, hb4⟩
      have H4 := H3.out.bl hb4
      exact ⟨_, H4.res.run _ rfl rfl rfl rfl ⟨_, _, _, rfl⟩, .inl ⟨fun h => by simp [h.2] at heq, rfl⟩, H4.bel⟩
    · have HEQ : Hid (ps = (qPieces s.data.toList).1.map Pc.n) := Lib.hid (by simpa using heq)
      obtain ⟨s0, s1, s2, c1, c2, c2b, c3, c4, f1, f2, f2b, f3, f4, l4⟩ := H2.out.cells
      by_cases hf : Fits s x d
      · obtain ⟨hf0, hf1, hf2, hf3⟩ := hf
        obtain ⟨x', rfl⟩ : ∃ x' : Nat, x = x' := ⟨x.toNat, by omega⟩
        obtain ⟨d', rfl⟩ : ∃ d' : Nat, d = d' := ⟨d.toNat, by omega⟩
        go_wp2_with fail
        refine (change_ok s ins x' d' HM.out (by omega) (by omega) _).mono ?_
        rintro e W3 ⟨rfl, hb3⟩
        have H3 := Lib.hid (H2.out.bl hb3)
        clear s0 s1 s2 c1 c2 c2b c3 c4 f1 f2 f2b f3 f4 l4
        obtain ⟨s0, s1, s2, c1, c2, c2b, c3, c4, f1, f2, f2b, f3, f4, l4⟩ := H3.out.cells
        have H3b := Lib.hid (H3.out.set4 h6 0)
        have HSZ := Lib.hid (spliced_size s ins x' d' (by omega) (by omega))
        have hm2 := HM.out
        have hs20 := qPieces_small _ HNo.out
        simp only [Array.length_toList, ByteArray.size_data] at hs20
        go_wp2_with fail
        refine (recut_any s ins x' d' _ (by omega) (by omega) (by rw [HSZ.out]; omega) HNo.out _ H3b.out.env (HEQ.out ▸ (HV.out.bl H3b.out.bel))).mono ?_
        rintro e W4 ⟨⟨hn2, vo, rfl, hrow, hnil⟩ | ⟨er, i, hse, rfl⟩, hb4⟩
        · have H4 := Lib.hid (H3b.out.bl hb4)
          obtain ⟨va, vn, vc, rfl⟩ := ownsRow_slice hrow
          have hn20 : s.size + ins.size - d' ≤ 20000 := by have := qPieces_small _ hn2; simp only [Array.length_toList, ByteArray.size_data] at this; rw [HSZ.out] at this; exact this
          have hrow2 := owns_low (owns_far hrow H4.out.res.r1 (by simp) (grown_set W4 (w.heap.size + 1) 0 (.slice va vn vc))) H3b.out.bel.size
          have H5 := Lib.hid (H4.out.set1 h6 (.slice va vn vc))
          have HROW := Lib.hid hrow2
          have HN2 := Lib.hid hn2
          have HNIL := Lib.hid hnil
          have hwr : IntKind.i64.wrap (((spliced s x' d' ins).size : Int) - (s.size : Int)) = (ins.size : Int) - (d' : Int) := by rw [HSZ.out, IntWalk.i64_in _ (by omega)]; omega
          clear s0 s1 s2 c1 c2 c2b c3 c4 f1 f2 f2b f3 f4 l4 hrow hrow2 hn2 hnil hb4
          obtain ⟨_, _, _, c1, _, _, _, _, f1, _, _, _, _, l4⟩ := H4.out.cells
          go_wp2_with fail
          clear c1 f1 l4
          have H5d := Lib.hid (H5.out.bl ((Below.refl _ _).drew))
          have HP5 := Lib.hid (pn_read (owns_bl' HROW.out ((Below.refl _ _).drew)) (Nat.le_trans (qPieces_length _) (by unfold maxLen; omega)))
          have HK5 := Lib.hid (HV.out.bl H5d.out.bel)
          have hpb : ∀ (k : Nat) (p : Pn), ps[k]? = some p → 0 ≤ p.at_ ∧ p.at_ ≤ 20000 := by
            intro k p hp
            rw [HEQ.out, List.getElem?_map, Option.map_eq_some_iff] at hp
            obtain ⟨q, hq, rfl⟩ := hp
            have := (qPieces_follow s.data.toList).1.get hq
            simp only [Array.length_toList, ByteArray.size_data] at this
            simp only [Pc.n]; omega
          have HPB := Lib.hid hpb
          have hpl : ps.length ≤ 20000 := by rw [HEQ.out, List.length_map]; exact qPieces_length _
          clear hpb
          obtain ⟨s0, s1, s2, c1, c2, c2b, c3, c4, f1, f2, f2b, f3, f4, l4⟩ := H5.out.cells
          go_region_held3 (fun w' => w'.cell? ⟨w.heap.size + 1, 0, none⟩ = some (.slice va vn vc)) (first | go_keep)
            (first
              | (go_at_call 54; refine (kept_any _ _ ps _ _ _ HK5.out HP5.out hpl (by rw [List.length_map]; exact qPieces_length _) HPB.out (by omega)).mono ?_; rintro e W6 ⟨rfl, hb6⟩; have H6 := Lib.hid (H5d.out.bl hb6); obtain ⟨t0, t1, t2, y1, y2, y2b, y3, y4, z1, z2, z2b, z3, z4, m4⟩ := H6.out.cells; have k1 := (H6.out.res.r1.set (.slice va vn vc)).cell))
          go_wp2_with fail
          have H7 := Lib.hid (H6.out.put h6 (.slice va vn vc) (qKept ps ((qPieces (spliced s x' d' ins).data.toList).1.map Pc.n) ((ins.size : Int) - d')).1 (qKept ps ((qPieces (spliced s x' d' ins).data.toList).1.map Pc.n) ((ins.size : Int) - d')).2 0 0)
          have HR7 := Lib.hid (owns_put4 H6.out.res (owns_bl' (owns_bl' HROW.out ((Below.refl _ _).drew)) hb6) (.slice va vn vc) (qKept ps ((qPieces (spliced s x' d' ins).data.toList).1.map Pc.n) ((ins.size : Int) - d')).1 (qKept ps ((qPieces (spliced s x' d' ins).data.toList).1.map Pc.n) ((ins.size : Int) - d')).2 0 0)
          refine ⟨by simp, .inr ⟨fun _ => by omega, _, _, 51, #[.pointer (some ⟨w.heap.size + 1, 0, none⟩), .pointer (some ⟨w.heap.size + 2, 0, none⟩), .pointer (some ⟨w.heap.size + 3, 0, none⟩), .pointer (some ⟨w.heap.size + 4, 0, none⟩)], rfl, by simp [invoke, go_sem], fun _ _ => trivial, (catchU_idle _ _ _ _ _).mono ?_⟩⟩
          rintro e u' W8 ⟨rfl, rfl, hb8⟩
          have H8 := H7.out.bl hb8
          exact ⟨_, H8.res.run _ rfl rfl rfl rfl ⟨_, _, _, rfl⟩, .inr ⟨HNo.out, HEQ.out, .inr ⟨x', d', rfl, rfl, by omega, by omega, .inl ⟨HN2.out, _, owns_bl' HR7.out hb8, HNIL.out, rfl⟩⟩⟩, H8.bel⟩
        · have H4 := Lib.hid (H3b.out.bl hb4)
          have HSE := Lib.hid hse
          clear s0 s1 s2 c1 c2 c2b c3 c4 f1 f2 f2b f3 f4 l4
          unfold refusal
          go_wp2_with fail
          refine ⟨by simp, .inr ⟨fun _ => by omega, _, _, 51, #[.pointer (some ⟨w.heap.size + 1, 0, none⟩), .pointer (some ⟨w.heap.size + 2, 0, none⟩), .pointer (some ⟨w.heap.size + 3, 0, none⟩), .pointer (some ⟨w.heap.size + 4, 0, none⟩)], rfl, by simp [invoke, go_sem], fun _ _ => trivial, (catchU_bad w.heap.size _ _ _ _ _ er i _ H4.out.res).mono ?_⟩⟩
          rintro e u' W5 ⟨rfl, rfl, h5, hb5⟩
          exact ⟨_, h5.run _ rfl rfl rfl rfl ⟨_, _, _, rfl⟩, .inr ⟨HNo.out, HEQ.out, .inr ⟨x', d', rfl, rfl, by omega, by omega, .inr ⟨er, i, HSE.out, rfl⟩⟩⟩, H4.out.bel.trans (hb5.mono (by omega))⟩
      · have HNF := Lib.hid hf
        clear hf
        go_wp2_with fail
        refine (change_bad s ins x d hms HNF.out _).mono ?_
        rintro e W3 ⟨rfl, hb3⟩
        have H3 := Lib.hid (H2.out.bl hb3)
        clear s0 s1 s2 c1 c2 c2b c3 c4 f1 f2 f2b f3 f4 l4
        obtain ⟨s0, s1, s2, c1, c2, c2b, c3, c4, f1, f2, f2b, f3, f4, l4⟩ := H3.out.cells
        have H3c := Lib.hid (H3.out.set4 h6 1)
        have H3b := Lib.hid (H3c.out.put h6 (.slice none 0 0) 0 0 0 1)
        go_wp2_with fail
        go_region
        go_wp2_with fail
        have H3e := Lib.hid (H3b.out.bl ((Below.refl _ _).drew))
        refine ⟨by simp, .inr ⟨fun _ => by omega, _, _, 51, #[.pointer (some ⟨w.heap.size + 1, 0, none⟩), .pointer (some ⟨w.heap.size + 2, 0, none⟩), .pointer (some ⟨w.heap.size + 3, 0, none⟩), .pointer (some ⟨w.heap.size + 4, 0, none⟩)], rfl, by simp [invoke, go_sem], fun _ _ => trivial, (catchU_idle _ _ _ _ _).mono ?_⟩⟩
        rintro e u' W5 ⟨rfl, rfl, hb5⟩
        have H5 := H3e.out.bl hb5
        exact ⟨_, H5.res.run _ rfl rfl rfl rfl ⟨_, _, _, rfl⟩, .inr ⟨HNo.out, HEQ.out, .inl ⟨HNF.out, rfl⟩⟩, H5.bel⟩
  · have hsome : ¬ (qPieces s.data.toList).2 = none := fun h => by have := (qErr_zero _).2 h; simp [this] at her
    obtain ⟨s0, s1, s2, c1, c2, c2b, c3, c4, f1, f2, f2b, f3, f4, l4⟩ := H1.out.cells
    have HSo := Lib.hid hsome
    clear hsome
    go_wp2_with fail
    have H3 := Lib.hid (H1.out.put h6 (.slice none 0 0) 0 0 0 15)
    refine ⟨by simp, .inr ⟨fun _ => by omega, _, _, 51, #[.pointer (some ⟨w.heap.size + 1, 0, none⟩), .pointer (some ⟨w.heap.size + 2, 0, none⟩), .pointer (some ⟨w.heap.size + 3, 0, none⟩), .pointer (some ⟨w.heap.size + 4, 0, none⟩)], rfl, by simp [invoke, go_sem], fun _ _ => trivial, (catchU_idle _ _ _ _ _).mono ?_⟩⟩
    rintro e u' W4 ⟨rfl, rfl, hb4⟩
    have H4 := H3.out.bl hb4
    exact ⟨_, H4.res.run _ rfl rfl rfl rfl ⟨_, _, _, rfl⟩, .inl ⟨fun h => HSo.out h.1, rfl⟩, H4.bel⟩

/-- **Update** -/
theorem update_any (s ins : ByteArray) (x d : Int) (v : Value) (ps : List Pn) (hm : s.size + ins.size ≤ maxLen) (w : World) (he : Env w) (hv : PnRead w v ps) :
    Calls Tryz.prog 35 #[.string s, v, SpV x d ins] w fun e W => UpEnd s ins x d ps w.heap.size e W ∧ Below w.heap.size w W :=
  (callsIn_wide (n := 2)).1 (update_in s ins x d v ps hm w he hv)
end Go.Proofs.YtdfkkeeohbgmbaaGreatDoor
