/- Package lex: Kind, IsName, IsPlain, Split and Number. -/
import Derived.Test.YtopbmndjnjnmcaaGreatDoorAB
namespace Go.Proofs.YtopbmndjnjnmcaaGreatDoor
open Go.RowKit Lx

attribute [local go_sem] Oper.semAt_some

/-- The kind of the one token that a text is. -/
def kindOf (l : Bs) (ps : List Pc) : Nat := match ps.head? with | some p => if p.kind < 7 ∧ p.len = l.length then p.kind else 0 | none => 0
def qKind (l : Bs) : Nat := kindOf l (qPieces l).1

set_option maxHeartbeats 2000000 in
theorem catchK_bad (B1 : Nat) (v1 : Value) (er i : Nat) (w : World) (h1 : Boxed w B1 3 v1) :
    CallsDIn Fence.wide 1 Tryz.prog 127 #[.pointer (some ⟨B1, 0, none⟩)] (.panicking [{ v := .iface 161 (.agg #[.int .i64 er, .int .i64 i]), recovered := false }]) w fun e u' w' =>
      e = .returned (.tuple #[]) ∧ u' = .panicking [{ v := .iface 161 (.agg #[.int .i64 er, .int .i64 i]), recovered := true }] ∧ Boxed w' B1 3 (.int .i64 0) ∧ (∀ B, B ≤ w.heap.size → B ≤ B1 → Below B w w') := by
  have c1 := h1.cell
  have f1 := h1.frozen
  have hta := assert_yes (.int .i64 er) (.int .i64 i)
  refine callsDIn_of_wpSIn Tryz.func127 rfl trivial fun c₀ cs hu => ?_
  simp only [Tryz.ntmps127, List.size_toArray, List.length_cons, List.length_nil, Nat.reduceAdd, Nat.reduceSub, Array.replicate_succ, Array.replicate_zero, List.push_toArray, List.append_toArray, List.nil_append, List.cons_append]
  apply wpSIn_seq
  apply wpSIn_region
  simp [wpOpsSIn, go_sem, recoverD, hu, Exit.thenS, hta]
  refine wpSIn_of_wpIn rfl ?_
  have k1 := h1.lt
  gi_wp2
  have hq1 := h1.set (.int .i64 0)
  exact ⟨rfl, _, rfl, .tuple #[], by simp [results, Tryz.results127], rfl, rfl, hq1.alloc _, fun B hw hb1 => ((Below.refl B w).setCell (p := ⟨B1, 0, none⟩) hb1 _).alloc (by simp [World.setCell]; exact hw) _⟩

theorem catchK_idle (B1 : Nat) (w : World) :
    CallsDIn Fence.wide 1 Tryz.prog 127 #[.pointer (some ⟨B1, 0, none⟩)] .returning w fun e u' w' => e = .returned (.tuple #[]) ∧ u' = .returning ∧ Below w.heap.size w w' := by
  have hta := assert_no
  refine callsDIn_of_wpSIn Tryz.func127 rfl trivial fun c₀ cs hu => ?_
  simp only [Tryz.ntmps127, List.size_toArray, List.length_cons, List.length_nil, Nat.reduceAdd, Nat.reduceSub, Array.replicate_succ, Array.replicate_zero, List.push_toArray, List.append_toArray, List.nil_append, List.cons_append]
  apply wpSIn_seq
  apply wpSIn_region
  simp [wpOpsSIn, go_sem, recoverD, hu, Exit.thenS, hta]
  refine wpSIn_of_wpIn rfl ?_
  gi_wp2
  exact ⟨rfl, .returning, by cases c₀; simp_all, .tuple #[], by simp [results, Tryz.results127], rfl, rfl, (Below.refl _ _).alloc (Nat.le_refl _) _⟩

/-- What Kind holds. -/
def KH (w : World) (s : ByteArray) (r : Nat) (x : St) (W : World) : Prop :=
  CutB W (w.heap.size + 2) s x.i x.t x.op ∧ Env W ∧ Boxed W w.heap.size 9 (.string s) ∧ Boxed W (w.heap.size + 1) 3 (.int .i64 r) ∧ Below w.heap.size w W

theorem KH.take {w : World} {s : ByteArray} (h6 : 6 ≤ w.heap.size) {r : Nat} {x x' : St} {W W' : World} (h : KH w s r x W) (hg : W.grownBy W' (some (w.heap.size + 2))) (hc : CutB W' (w.heap.size + 2) s x'.i x'.t x'.op) : KH w s r x' W' := by
  obtain ⟨h1, h2, h4, h5, hb⟩ := h
  exact ⟨hc, h2.kept (by omega) hg, h4.kept hg (by simp), h5.kept hg (by simp), hb.grown hg hb.size (fun k e => by cases e; omega)⟩

theorem KH.stable {w : World} {s : ByteArray} {B : Nat} (h6w : 6 ≤ w.heap.size) (hB : w.heap.size + 3 ≤ B) {r : Nat} {x : St} {W W' : World} {row : Option Nat} (h : KH w s r x W) (hg : W.grownBy W' row) (hrow : ∀ k, row = some k → B ≤ k) : KH w s r x W' := by
  obtain ⟨h1, h2, h4, h5, hb⟩ := h
  have hne : ∀ b, b < B → some b ≠ row := fun b hb e => by have := hrow b e.symm; omega
  refine ⟨h1.kept hg (hne _ (by omega)), ?_, h4.kept hg (hne _ (by omega)), h5.kept hg (hne _ (by omega)), hb.grown hg hb.size (fun k e => by have := hrow k e; omega)⟩
  cases row with
  | none => exact h2.below ⟨hg.os, hg.tape, hg.output, hg.size, fun k hk => hg.block k hk (by simp)⟩
  | some b => exact h2.kept (by have := hrow b rfl; omega) hg

theorem res14 (B : Nat) (T : Array Value) (W : World) (r : Int) (t2 : T.getD 2 undef = .pointer (some ⟨B + 1, 0, none⟩)) (h2 : Boxed W (B + 1) 3 (.int .i64 r)) :
    (results Tryz.f110 T).run Tryz.prog W = .ok (.int .i64 r) W := by
  have c2 := h2.cell
  rw [Array.getD_eq_getD_getElem?] at t2
  simp [results, Tryz.results110, go_sem, t2, c2]

set_option maxRecDepth 100000 in
set_option maxHeartbeats 4000000 in
theorem kind_in (s : ByteArray) (hs : s.size ≤ 20000) (w : World) (he : Env w) :
    CallsIn Fence.wide 2 Tryz.prog 110 #[.string s] w fun e W' => e = .returned (.int .i64 (qKind s.data.toList : Nat)) ∧ Below w.heap.size w W' := by
  have h6 := he.size
  have hqp : qPieces s.data.toList = qFrom s.data.toList ⟨0, 0, false⟩ := if_neg (by simp; omega)
  have HQP := Lib.hid hqp
  clear hqp
  refine callsIn_of_wp_marks Tryz.func110 rfl trivial ?_ rfl
  simp only [Tryz.ntmps110, List.size_toArray, List.length_cons, List.length_nil, Nat.reduceAdd, Nat.reduceSub, Array.replicate_succ, Array.replicate_zero, List.push_toArray, List.append_toArray, List.nil_append, List.cons_append]
  have hmf : ∀ (fn : Fn) (first cap : Array Value) (w : World), (Instr.makeFunc fn first cap).run Tryz.prog w = .ok (.func fn first cap) w := fun _ _ _ _ => rfl
  gi_wp2_with fail
  refine ⟨trivial, (callsIn_wide.2 (newCutter_ok s hs _)).mono ?_⟩
  rintro e w' ⟨rfl, rfl⟩
  have bO := Boxed.new w 9 (.string s)
  have bA := Boxed.new (w.alloc (.cells #[.string s] 9)) 3 (.int .i64 0)
  have bC : CutB (((w.alloc (.cells #[.string s] 9)).alloc (.cells #[.int .i64 0] 3)).alloc (.cells #[.string s, .int .i64 0, .int .i64 0, .bool false] 179)) (w.heap.size + 2) s 0 0 false := by
    have := World.alloc_heap_new ((w.alloc (.cells #[.string s] 9)).alloc (.cells #[.int .i64 0] 3)) (.cells #[.string s, .int .i64 0, .int .i64 0, .bool false] 179)
    simp only [World.size_alloc] at this
    exact this
  simp only [World.size_alloc] at bA
  have hb4 : Below w.heap.size w (((w.alloc (.cells #[.string s] 9)).alloc (.cells #[.int .i64 0] 3)).alloc (.cells #[.string s, .int .i64 0, .int .i64 0, .bool false] 179)) :=
    (((Below.refl _ w).alloc (Nat.le_refl _) _).alloc (by simp) _).alloc (by simp; try omega) _
  have hP : KH w s 0 ⟨0, 0, false⟩ (((w.alloc (.cells #[.string s] 9)).alloc (.cells #[.int .i64 0] 3)).alloc (.cells #[.string s, .int .i64 0, .int .i64 0, .bool false] 179)) :=
    ⟨bC, he.below hb4, (bO.alloc _).alloc _, bA.alloc _, hb4⟩
  have HP := Lib.hid hP
  clear hP bO bA bC hb4
  gi_wp2_with fail
  refine range_cut s (w.heap.size + 2) hs ⟨0, 0, false⟩ (Nat.zero_le _) (Nat.zero_le _) rfl rfl (fun pre x W => pre = [] ∧ KH w s 0 x W) (fun c pre x W => c = .exit 0 ∧ ∃ p, pre = [p] ∧ KH w s (kindOf s.data.toList [p]) x W)
    (fun pre x W h => ⟨h.2.1, h.2.2.1⟩) (fun pre x x' W W' h hg hc => ⟨h.1, KH.take h6 h.2 hg hc⟩) ?stab ?stabx ⟨rfl, HP.out⟩
    (fun p pb => { tmps := #[.string s, .pointer (some ⟨w.heap.size, 0, none⟩), .pointer (some ⟨w.heap.size + 1, 0, none⟩), .pointer (some ⟨pb, 0, none⟩),
        .func (.func 127) #[] #[.pointer (some ⟨w.heap.size + 1, 0, none⟩)], .string s, .pointer (some ⟨w.heap.size + 1 + 1, 0, none⟩),
        .func (.func 129) #[.pointer (some ⟨w.heap.size + 1 + 1, 0, none⟩)] #[], PcV p, undef, undef, undef, undef, undef, undef, undef, undef, undef, undef, undef, undef, undef], defers := [] }) ?assign ?body ?done ?stop ?panic
  case stab => rintro pre x _ W W' row h hg hrow; exact ⟨h.1, KH.stable h6 (by simp) h.2 hg (fun k e => (hrow k e).1)⟩
  case stabx => rintro c pre x _ W W' row ⟨rfl, p, hp, h⟩ hg hrow; exact ⟨rfl, p, hp, KH.stable h6 (by simp) h hg (fun k e => (hrow k e).1)⟩
  case assign =>
    intro l p W K hK
    simp only [PcV] at hK ⊢
    gi_wp2
    exact hK
  case body =>
    rintro l pre x p pb W ⟨rfl, h1, h2, h3, h4, hb⟩ hp hpb hxi hpx hq
    have H1 := Lib.hid h1
    have H2 := Lib.hid h2
    clear hq h1 h2
    have c3 := h3.cell
    have c4 := h4.cell
    have f4 := h4.frozen
    obtain ⟨p0, p1, p2, _, _, _⟩ := cells3 hp
    cases h7 : (decide ((p.kind : Int) < 7))
    · have hk : Hid (kindOf s.data.toList [p] = 0) := Lib.hid (if_neg (by simp at h7; omega))
      gi_wp2_with fail
      exact ⟨KeepsFrom.refl _ _, rfl, p, rfl, H1.out, H2.out, h3, by rw [hk.out]; exact h4, hb⟩
    · cases hl : ((p.len : Int) == (s.size : Int))
      · have hk : Hid (kindOf s.data.toList [p] = 0) := Lib.hid (if_neg (by simp at hl ⊢; omega))
        gi_wp2_with fail
        exact ⟨KeepsFrom.refl _ _, rfl, p, rfl, H1.out, H2.out, h3, by rw [hk.out]; exact h4, hb⟩
      · have hk : Hid (kindOf s.data.toList [p] = p.kind) := Lib.hid (if_pos (by simp at h7 hl ⊢; omega))
        gi_wp2_with fail
        have hlt : w.heap.size + 1 < W.heap.size := h4.lt
        have hg := grownBy_setCell' W (w.heap.size + 1) (.int .i64 p.kind)
        refine ⟨KeepsFrom.of_grownBy hg (fun j e => by cases e; simp), rfl, p, rfl, H1.out.kept hg (by simp), H2.out.kept (by omega) hg, h3.kept hg (by simp), by rw [hk.out]; exact h4.set _, hb.setCell (p := ⟨w.heap.size + 1, 0, none⟩) (by simp) _⟩
  case done =>
    rintro D pre x W hD ⟨rfl, h1, h2, h3, h4, hb⟩ hq _ hK
    have hkq : Hid (qKind s.data.toList = 0) := Lib.hid (by unfold qKind; rw [HQP.out, hq]; rfl)
    have c4 := h4.cell
    have f4 := h4.frozen
    clear hq
    gi_wp2
    have hD4 : w.heap.size + 3 ≤ D := by simpa using hD
    have b2 := h4.set (.int .i64 (0 : Nat))
    have hb' := hb.setCell (p := ⟨w.heap.size + 1, 0, none⟩) (by simp) (.int .i64 (0 : Nat))
    have hK' := (Below.heap_setCell W ⟨w.heap.size + 1, 0, none⟩ (.int .i64 (0 : Nat)) D (by show D ≠ w.heap.size + 1; omega)).trans hK
    refine ⟨by simp, .inl ⟨D, _, rfl, run_takeDeferred hK', ?_⟩⟩
    refine ⟨by simp, .inr ⟨fun _ => by omega, _, _, 127, #[.pointer (some ⟨w.heap.size + 1, 0, none⟩)], rfl, by simp [invoke, go_sem], fun _ _ => trivial, (catchK_idle _ _).mono ?_⟩⟩
    rintro e u' W2 ⟨rfl, rfl, hb2⟩
    exact ⟨_, res14 w.heap.size _ W2 (0 : Nat) rfl (Boxed.bl (Boxed.put b2 _ (by omega)) hb2), by rw [hkq.out], (hb'.trans (belowK_b (w := w) (Nat.le_refl _) _ D _ _ (by omega) hK' rfl rfl)).trans (hb2.mono (by simpa using hb'.size))⟩
  case stop =>
    rintro D c pre rest x W hD ⟨rfl, p, rfl, h1, h2, h3, h4, hb⟩ hq hK
    have hkq : Hid (qKind s.data.toList = kindOf s.data.toList [p]) := Lib.hid (by unfold qKind; rw [HQP.out, hq]; rfl)
    have c4 := h4.cell
    have f4 := h4.frozen
    clear hq
    gi_wp2
    have hD4 : w.heap.size + 3 ≤ D := by simpa using hD
    have b2 := h4.set (.int .i64 (kindOf s.data.toList [p] : Nat))
    have hb' := hb.setCell (p := ⟨w.heap.size + 1, 0, none⟩) (by simp) (.int .i64 (kindOf s.data.toList [p] : Nat))
    have hK' := (Below.heap_setCell W ⟨w.heap.size + 1, 0, none⟩ (.int .i64 (kindOf s.data.toList [p] : Nat)) D (by show D ≠ w.heap.size + 1; omega)).trans hK
    refine ⟨by simp, .inl ⟨D, _, rfl, run_takeDeferred hK', ?_⟩⟩
    refine ⟨by simp, .inr ⟨fun _ => by omega, _, _, 127, #[.pointer (some ⟨w.heap.size + 1, 0, none⟩)], rfl, by simp [invoke, go_sem], fun _ _ => trivial, (catchK_idle _ _).mono ?_⟩⟩
    rintro e u' W2 ⟨rfl, rfl, hb2⟩
    exact ⟨_, res14 w.heap.size _ W2 (kindOf s.data.toList [p] : Nat) rfl (Boxed.bl (Boxed.put b2 _ (by omega)) hb2), by rw [hkq.out], (hb'.trans (belowK_b (w := w) (Nat.le_refl _) _ D _ _ (by omega) hK' rfl rfl)).trans (hb2.mono (by simpa using hb'.size))⟩
  case panic =>
    rintro D pre x er W hD ⟨rfl, h1, h2, h3, h4, hb⟩ her hq hK
    have hkq : Hid (qKind s.data.toList = 0) := Lib.hid (by unfold qKind; rw [HQP.out, hq]; rfl)
    clear hq
    gi_wp2
    have hD4 : w.heap.size + 3 ≤ D := by simpa using hD
    refine ⟨by simp, .inl ⟨D, _, rfl, run_takeDeferred hK, ?_⟩⟩
    refine ⟨by simp, .inr ⟨fun _ => by omega, _, _, 127, #[.pointer (some ⟨w.heap.size + 1, 0, none⟩)], rfl, by simp [invoke, go_sem], fun _ _ => trivial,
      (catchK_bad (w.heap.size + 1) _ er x.i _ (Boxed.put h4 _ (by omega))).mono ?_⟩⟩
    rintro e u' W2 ⟨rfl, rfl, k1, hb2⟩
    exact ⟨_, res14 w.heap.size _ W2 0 rfl k1, by rw [hkq.out]; rfl, (hb.trans (belowK_b (w := w) (Nat.le_refl _) _ D _ _ (by omega) hK rfl rfl)).trans (hb2 w.heap.size (by simpa using hb.size) (by omega))⟩

set_option maxRecDepth 100000 in
set_option maxHeartbeats 4000000 in
theorem kind_big (s : ByteArray) (hs : 20000 < s.size) (hm : s.size ≤ maxLen) (w : World) :
    CallsIn Fence.wide 2 Tryz.prog 110 #[.string s] w fun e W' => e = .returned (.int .i64 (qKind s.data.toList : Nat)) ∧ Below w.heap.size w W' := by
  have hkq : Hid (qKind s.data.toList = 0) := Lib.hid (by unfold qKind; rw [qPieces_big _ (by simpa using hs)]; rfl)
  refine callsIn_of_wp_marks Tryz.func110 rfl trivial ?_ rfl
  simp only [Tryz.ntmps110, List.size_toArray, List.length_cons, List.length_nil, Nat.reduceAdd, Nat.reduceSub, Array.replicate_succ, Array.replicate_zero, List.push_toArray, List.append_toArray, List.nil_append, List.cons_append]
  have hmf : ∀ (fn : Fn) (first cap : Array Value) (w : World), (Instr.makeFunc fn first cap).run Tryz.prog w = .ok (.func fn first cap) w := fun _ _ _ _ => rfl
  gi_wp2_with fail
  refine ⟨trivial, (callsIn_wide.2 (newCutter_bad s hs hm _)).mono ?_⟩
  rintro e W1 ⟨rfl, hb1⟩
  have bA := Boxed.new (w.alloc (.cells #[.string s] 9)) 3 (.int .i64 0)
  simp only [World.size_alloc] at bA
  have k2 := Boxed.bl bA hb1
  have hb : Below w.heap.size w W1 := bt (((Below.refl _ w).alloc (Nat.le_refl _) _).alloc (by simp) _) hb1
  clear bA hb1
  unfold refusal
  gi_wp2_with fail
  refine ⟨by simp, .inr ⟨fun _ => by omega, _, _, 127, #[.pointer (some ⟨w.heap.size + 1, 0, none⟩)], rfl, by simp [invoke, go_sem], fun _ _ => trivial,
    (catchK_bad (w.heap.size + 1) _ 2 0 _ k2).mono ?_⟩⟩
  rintro e u' W2 ⟨rfl, rfl, q2, hb2⟩
  exact ⟨_, res14 w.heap.size _ W2 0 rfl q2, by rw [hkq.out]; rfl, hb.trans (hb2 w.heap.size hb.size (by omega))⟩

/-- **Kind** -/
theorem kind_any (s : ByteArray) (hm : s.size ≤ maxLen) (w : World) (he : Env w) :
    Calls Tryz.prog 110 #[.string s] w fun e W' => e = .returned (.int .i64 (qKind s.data.toList : Nat)) ∧ Below w.heap.size w W' := by
  refine (callsIn_wide (n := 2)).1 ?_
  by_cases hs : s.size ≤ 20000
  · exact kind_in s hs w he
  · exact kind_big s (by omega) hm w

theorem qKind_small (l : Bs) (h : qKind l ≠ 0) : l.length ≤ 20000 := by
  by_cases h' : 20000 < l.length
  · exfalso; apply h; unfold qKind; rw [qPieces_big l h']; rfl
  · omega

/-- **IsName** -/
theorem isName_any (s : ByteArray) (hm : s.size ≤ maxLen) (w : World) (he : Env w) :
    Calls Tryz.prog 116 #[.string s] w fun e W' => e = .returned (.bool (qKind s.data.toList == 1)) ∧ Below w.heap.size w W' := by
  have HE := Lib.hid he
  clear he
  go_enter Tryz.func116, Tryz.ntmps116
  go_wp2_with fail
  refine (kind_any s hm _ HE.out).mono ?_
  rintro e w1 ⟨rfl, hb⟩
  obtain ⟨q, hq⟩ : ∃ q, qKind s.data.toList = q := ⟨_, rfl⟩
  rw [hq]
  have hbq : ((q : Int) == 1) = (q == 1) := by rw [Bool.eq_iff_iff]; simp; omega
  go_wp2_with fail
  go_ret
  exact ⟨by rw [hq]; rfl, hb⟩

/-- **IsPlain** -/
theorem isPlain_any (s : ByteArray) (hm : s.size ≤ maxLen) (w : World) (he : Env w) :
    Calls Tryz.prog 90 #[.string s] w fun e W' => e = .returned (.bool ((qKind s.data.toList == 1) && !decide (0 ≤ Lib.indexByte s.data.toList 64))) ∧ Below w.heap.size w W' := by
  have HE := Lib.hid he
  clear he
  go_enter Tryz.func90, Tryz.ntmps90
  go_wp2_with fail
  refine (isName_any s hm _ HE.out).mono ?_
  rintro e w1 ⟨rfl, hb⟩
  cases hq : (qKind s.data.toList == 1)
  · go_wp2_with fail
    go_ret
    exact ⟨by rw [hq]; rfl, hb⟩
  · go_wp2_with fail
    refine (Tryz.strings_Contains_one s 64 _).mono ?_
    rintro e w2 ⟨rfl, rfl⟩
    go_wp2_with fail
    go_ret
    exact ⟨by rw [hq]; rfl, hb⟩

/-- The parts of a name. -/
def qSplit (l : Bs) : Bs × Bs := if (Lib.cut l [64]).2.2 = true ∧ qKind l = 1 then ((Lib.cut l [64]).1, (Lib.cut l [64]).2.1) else (l, [])

end Go.Proofs.YtopbmndjnjnmcaaGreatDoor
