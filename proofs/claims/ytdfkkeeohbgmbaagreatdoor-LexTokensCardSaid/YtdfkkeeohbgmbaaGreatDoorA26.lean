/- Package lex: recut, between texts that are not too long. -/
import Derived.Test.YtdfkkeeohbgmbaaGreatDoorA25
import Derived.Deep.DeepCutAuto
import Derived.Deep.CutBlock
import Derived.Deep.RegionHeld3
import Derived.Deep.AppendLies
import Derived.Deep.DrawnRows
import Derived.BigQuiet
import Derived.StillTailTactics
import Derived.Sort.CutIn
namespace Go.Proofs.YtdfkkeeohbgmbaaGreatDoor
open Go.RowKit Lx

attribute [local go_sem] Oper.semAt_some
attribute [local go_sem ↓] Go.wp_at_zero Go.wp_at_succ

theorem cells3g {w : World} {r : Nat} {a b c : Value} {t : TypeId} (h : w.heap[r]? = some (.cells #[a, b, c] t (0, 0))) : w.cell? ⟨r, 0, none⟩ = some a ∧ w.cell? ⟨r, 1, none⟩ = some b ∧ w.cell? ⟨r, 2, none⟩ = some c := ⟨(cells3 h).1, (cells3 h).2.1, (cells3 h).2.2.1⟩

theorem nine (w : World) (o0 o1 o2 o3 o4 o5 o6 o7 o8 : Obj) :
    (((((((((w.alloc o0).alloc o1).alloc o2).alloc o3).alloc o4).alloc o5).alloc o6).alloc o7).alloc o8).heap[w.heap.size]? = some o0 ∧
    (((((((((w.alloc o0).alloc o1).alloc o2).alloc o3).alloc o4).alloc o5).alloc o6).alloc o7).alloc o8).heap[w.heap.size + 1]? = some o1 ∧
    (((((((((w.alloc o0).alloc o1).alloc o2).alloc o3).alloc o4).alloc o5).alloc o6).alloc o7).alloc o8).heap[w.heap.size + 2]? = some o2 ∧
    (((((((((w.alloc o0).alloc o1).alloc o2).alloc o3).alloc o4).alloc o5).alloc o6).alloc o7).alloc o8).heap[w.heap.size + 3]? = some o3 ∧
    (((((((((w.alloc o0).alloc o1).alloc o2).alloc o3).alloc o4).alloc o5).alloc o6).alloc o7).alloc o8).heap[w.heap.size + 4]? = some o4 ∧
    (((((((((w.alloc o0).alloc o1).alloc o2).alloc o3).alloc o4).alloc o5).alloc o6).alloc o7).alloc o8).heap[w.heap.size + 5]? = some o5 ∧
    (((((((((w.alloc o0).alloc o1).alloc o2).alloc o3).alloc o4).alloc o5).alloc o6).alloc o7).alloc o8).heap[w.heap.size + 6]? = some o6 ∧
    (((((((((w.alloc o0).alloc o1).alloc o2).alloc o3).alloc o4).alloc o5).alloc o6).alloc o7).alloc o8).heap[w.heap.size + 7]? = some o7 ∧
    (((((((((w.alloc o0).alloc o1).alloc o2).alloc o3).alloc o4).alloc o5).alloc o6).alloc o7).alloc o8).heap[w.heap.size + 8]? = some o8 ∧
    Below w.heap.size w (((((((((w.alloc o0).alloc o1).alloc o2).alloc o3).alloc o4).alloc o5).alloc o6).alloc o7).alloc o8) := by
  refine ⟨?_, ?_, ?_, ?_, ?_, ?_, ?_, ?_, ?_, ?_⟩
  rotate_left 9
  · exact (((((((((Below.refl _ w).alloc (by simp) _).alloc (by simp) _).alloc (by simp; try omega) _).alloc (by simp; try omega) _).alloc (by simp; try omega) _).alloc (by simp; try omega) _).alloc (by simp; try omega) _).alloc (by simp; try omega) _).alloc (by simp; try omega) _
  all_goals
    simp only [World.alloc]
    simp only [Array.getElem?_push, Array.size_push]
    repeat first | rw [if_neg (by omega)] | rw [if_pos (by omega)] | rfl

theorem take_any (s : ByteArray) (b n kind : Nat) (st : St) (hi : st.i < s.size) (hn : st.i + n ≤ s.size) (hs : s.size ≤ 20000) (ht : st.t ≤ 6000) (hk : ¬ (kind < 7 ∧ st.t = 6000)) (w : World) (hc : CutB w b s st.i st.t st.op) :
    Calls Tryz.prog 58 #[.pointer (some ⟨b, 0, none⟩), .agg #[.int .i64 kind, .int .i64 st.i, .int .i64 n]] w fun e w' => e = .returned (.tuple #[]) ∧ CutB w' b s (qAfter s.data.toList st kind n).i (qAfter s.data.toList st kind n).t (qAfter s.data.toList st kind n).op ∧ w.grownBy w' (some b) := by
  by_cases h7 : kind < 7
  · have hq : qAfter s.data.toList st kind n = ⟨st.i + n, st.t + 1, qOper s.data.toList st.i kind⟩ := if_pos h7
    rw [hq]
    exact take_ok s b st.i st.t n kind st.op hi hn hs (by omega) h7 w hc
  · have hq : qAfter s.data.toList st kind n = ⟨st.i + n, st.t, st.op⟩ := if_neg h7
    rw [hq]
    exact take_skip s b st.i st.t n kind st.op hn hs (by omega) w hc

theorem RI.drew {w : World} {was now ins : ByteArray} {x d : Nat} {v : Value} {out : List Pc} {next : Nat} {fr tt : St} {W : World} (h : RI w was now ins x d v out next fr tt W) (h6 : 6 ≤ w.heap.size) : RI w was now ins x d v out next fr tt W.drew := h.bl h6 ((Below.refl _ _).drew)

theorem frozen_alloc (w : World) (o : Obj) (a : Addr) (h : a.block < w.heap.size) : (w.alloc o).frozen? a = w.frozen? a := ((Below.refl w.heap.size w).alloc (Nat.le_refl _) o).frozen h
theorem held_far {W w10 : World} {o : Obj} {row : Option Nat} {a : Addr} {v : Value} (hk : W.cell? a = some v) (hg : ((W.alloc o).drew).grownBy w10 row) (hne : row ≠ some a.block) : w10.cell? a = some v := by
  have hl := World.block_lt_of_cell? W a hk
  exact (hg.cell_far a (by show a.block < (W.alloc o).heap.size; rw [World.size_alloc]; omega) (Ne.symm hne)).trans ((Below.heap_alloc_cell W o a hl).trans hk)

theorem RI.reads {w : World} {was now ins : ByteArray} {x d : Nat} {v : Value} {out : List Pc} {next : Nat} {fr tt : St} {W : World} (h : RI w was now ins x d v out next fr tt W) {g o0 o1 o2 : Nat} {v0 v1 v2 : Value} (hg : g < w.heap.size) (e0 : w.cell? ⟨g, o0, none⟩ = some v0) (e1 : w.cell? ⟨g, o1, none⟩ = some v1) (e2 : w.cell? ⟨g, o2, none⟩ = some v2) :
    W.cell? ⟨w.heap.size, 0, none⟩ = some v ∧ W.cell? ⟨w.heap.size + 3, 0, none⟩ = some (.pointer (some ⟨w.heap.size + 2, 0, none⟩)) ∧ W.cell? ⟨w.heap.size + 5, 0, none⟩ = some (.pointer (some ⟨w.heap.size + 4, 0, none⟩)) ∧ W.cell? ⟨w.heap.size + 8, 0, none⟩ = some (.int .i64 next) ∧
    W.cell? ⟨g, o0, none⟩ = some v0 ∧ W.cell? ⟨g, o1, none⟩ = some v1 ∧ W.cell? ⟨g, o2, none⟩ = some v2 := by
  obtain ⟨a0, a1, a3, a5, a6⟩ := h.con
  exact ⟨a0.cell, a3.cell, a5.cell, h.next_.cell, (h.bel.cell (p := ⟨g, _, none⟩) hg).trans e0, (h.bel.cell (p := ⟨g, _, none⟩) hg).trans e1, (h.bel.cell (p := ⟨g, _, none⟩) hg).trans e2⟩
theorem calls_round {r n f : Nat} {args : Array Value} {w : World} {R : Ending → World → Prop} (h : Calls Tryz.prog f args w R) : CallsIn (Fence.wide.inRound r) n Tryz.prog f args w R := (callsIn_wide (n := n)).2 h
theorem keeps_more {B B' : Nat} {W W' : World} (h : KeepsFrom B W W') (hB : B ≤ B') : KeepsFrom B' W W' := ⟨h.size, fun i o hi ho hc => h.same i o (Nat.le_trans hB hi) ho hc⟩
theorem keeps_bl {B : Nat} {W W' : World} (h : Below W.heap.size W W') : KeepsFrom B W W' := KeepsFrom.of_grownBy (grown_bl h none) (fun j e => by cases e)
theorem size_ad {B : Nat} {W : World} (h : B ≤ W.heap.size) (o : Obj) : B ≤ (W.alloc o).drew.heap.size := by show B ≤ (W.alloc o).heap.size; rw [World.size_alloc]; omega
theorem frozen_held {W w10 : World} {o : Obj} {row : Option Nat} {a : Addr} {v : Value} (hk : W.cell? a = some v) (hf : W.frozen? a = false) (hg : ((W.alloc o).drew).grownBy w10 row) (hne : row ≠ some a.block) : w10.frozen? a = false := by
  have hl := World.block_lt_of_cell? W a hk
  exact (hg.frozen_far a (by show a.block < (W.alloc o).heap.size; rw [World.size_alloc]; omega) (Ne.symm hne)).trans ((frozen_alloc W o a hl).trans hf)
theorem size_an {B : Nat} {W : World} (h : B ≤ W.heap.size) (n : Nat) (o : Obj) : B ≤ ((W.drewN n).alloc o).heap.size := by rw [World.size_alloc]; show B ≤ W.heap.size + 1; omega
theorem World.grownBy_drewN (W : World) (n : Nat) (row : Option Nat) : W.grownBy (W.drewN n) row := grown_bl (bl W n) row
theorem none_row (v : Value) : v.ownBlock = none ∨ v.ownBlock ≠ none := by cases v.ownBlock <;> simp
theorem out_far {W W' w10 : World} {o : Obj} {row : Option Nat} {a : Addr} {u : Value} (hW : W'.heap = W.heap) (hg : (W'.alloc o).grownBy w10 row) (hc : W.cell? a = some u) (hf : W.frozen? a = false) (hne : row ≠ some a.block) : w10.cell? a = some u ∧ w10.frozen? a = false ∧ a.block < w10.heap.size := by
  have hc' : W'.cell? a = some u := (World.cell?_of_block (w := W) (by rw [hW])).trans hc
  have hf' : W'.frozen? a = false := (World.frozen?_of_block (w := W) (by rw [hW])).trans hf
  have hl := World.block_lt_of_cell? W' a hc'
  have h1 := (hg.cell_far a (by rw [World.size_alloc]; omega) (Ne.symm hne)).trans ((Below.heap_alloc_cell W' o a hl).trans hc')
  exact ⟨h1, (hg.frozen_far a (by rw [World.size_alloc]; omega) (Ne.symm hne)).trans ((frozen_alloc W' o a hl).trans hf'), World.block_lt_of_cell? _ _ h1⟩
theorem RI.heap {w : World} {was now ins : ByteArray} {x d : Nat} {v : Value} {out : List Pc} {next : Nat} {fr tt : St} {W W' : World} (h : RI w was now ins x d v out next fr tt W) (h6 : 6 ≤ w.heap.size) (hb : Below W.heap.size W W') : RI w was now ins x d v out next fr tt W' := h.bl h6 hb

set_option maxRecDepth 100000 in
set_option maxHeartbeats 8000000 in
theorem recut_in (was now ins : ByteArray) (x d : Nat) (v : Value) (old : List Pc) (hws : was.size ≤ 20000) (hns : now.size ≤ 20000) (hxn : x ≤ was.size) (hxn2 : x ≤ now.size) (hins : ins.size ≤ 20000)
    (hold : qFrom was.data.toList ⟨0, 0, false⟩ = (old, none)) (hol : old.length ≤ 20000) (hag : was.data.toList.take x = now.data.toList.take x)
    (hdr : ∀ i j : Nat, x + ins.size ≤ i → (j : Int) + ((now.size : Int) - was.size) = i → now.data.toList.drop i = was.data.toList.drop j)
    (w : World) (he : Env w) (hv : PnRead w v (old.map Pc.n)) :
    CallsIn Fence.wide 2 Tryz.prog 53 #[.string was, .string now, v, SpV x d ins] w fun e W => RecEnd now.data.toList w.heap.size e W ∧ Below w.heap.size w W := by
  have h6 := he.size
  obtain ⟨i0, hi0, hz0, hz1, hz2⟩ := info_parts info33
  obtain ⟨aa, ca, rfl, hca, hr⟩ := old_read hv
  have HR := Lib.hid hr
  clear hr hv
  have HAG := Lib.hid hag
  have HDR := Lib.hid hdr
  clear hag hdr
  unfold SpV
  refine callsIn_of_wp_marks Tryz.func53 rfl trivial ?_ rfl
  simp only [Tryz.ntmps53, List.size_toArray, List.length_cons, List.length_nil, Nat.reduceAdd, Nat.reduceSub, Array.replicate_succ, Array.replicate_zero, List.push_toArray, List.append_toArray, List.nil_append, List.cons_append]
  refine wpIn_wide.2 ?_
  go_wp2_with fail
  refine (newCutter_ok now hns _).mono ?_
  rintro e w' ⟨rfl, rfl⟩
  go_wp2_with fail
  refine (newCutter_ok was hws _).mono ?_
  rintro e w' ⟨rfl, rfl⟩
  go_upto_block 0 with fail
  simp only [Nat.add_assoc, Nat.reduceAdd]
  go_cut [] from 26 to 68 (fun wx => ∃ (k : Nat) (st : St), k ≤ old.length ∧ st.t ≤ 6000 ∧ st.i ≤ x ∧ Hid (RI w was now ins x d (.slice aa old.length ca) (old.take k) k st st wx) ∧ Hid (qFrom was.data.toList st = (old.drop k, none)) ∧ Hid (qFrom now.data.toList ⟨0, 0, false⟩ = (old.take k ++ (qFrom now.data.toList st).1, (qFrom now.data.toList st).2)))
  case first =>
    go_wp2_with fail
    go_loopw [] (fun wx => ∃ (k : Nat) (st : St), k ≤ old.length ∧ st.t ≤ 6000 ∧ st.i ≤ x ∧ Hid (RI w was now ins x d (.slice aa old.length ca) (old.take k) k st st wx) ∧ Hid (qFrom was.data.toList st = (old.drop k, none)) ∧ Hid (qFrom now.data.toList ⟨0, 0, false⟩ = (old.take k ++ (qFrom now.data.toList st).1, (qFrom now.data.toList st).2))) (fun wx => old.length - cellNat (w.heap.size + 8) 0 wx)
    case atStart =>
      obtain ⟨a0, a1, a2, a3, a4, a5, a6, a7, a8, ab⟩ := nine w (.cells #[.slice aa old.length ca] 23) (.cells #[.int .i64 x, .int .i64 d, .string ins] 40) (.cells #[.string now, .int .i64 0, .int .i64 0, .bool false] 89) (.cells #[.pointer (some ⟨w.heap.size + 2, 0, none⟩)] 64) (.cells #[.string was, .int .i64 0, .int .i64 0, .bool false] 89) (.cells #[.pointer (some ⟨w.heap.size + 4, 0, none⟩)] 64) (.cells #[.int .i64 ((now.size : Int) - was.size)] 3) (.cells #[.slice none 0 0] 23) (.cells #[.int .i64 0] 3)
      exact ⟨0, ⟨0, 0, false⟩, by omega, by simp, by simp, Lib.hid ⟨⟨a0, a1, a3, a5, a6⟩, a2, a4, ⟨_, a7, World.ownsRow_nil _ _ _ _, by simp⟩, a8, he.below ab, ab⟩, Lib.hid (by simpa using hold), Lib.hid (by simp)⟩
    case round =>
      obtain ⟨k, st, hk, ht, hix, HRI, HF, HT⟩ := hrel
      obtain ⟨a0, a1, a3, a5, a6⟩ := HRI.out.con
      have s8 := HRI.out.next_
      have c0 := a0.cell
      have c3 := a3.cell
      have c5 := a5.cell
      have c8 := s8.cell
      have f8 := s8.frozen
      have l8 := s8.lt
      obtain ⟨d0, d1, d2⟩ := cells3g a1
      clear a0 a1 a3 a5 a6
      by_cases hlt : k < old.length
      · obtain ⟨p, hp⟩ : ∃ p, old[k]? = some p := ⟨_, List.getElem?_eq_getElem hlt⟩
        obtain ⟨q1, q2, q3, q4, q5⟩ := fr_step HF.out hp
        obtain ⟨b1, b2, b3, b4⟩ := fr_bound q1 q2 q4
        simp only [Array.length_toList, ByteArray.size_data] at b3 q1
        obtain ⟨g, o, rfl, hg, e0, e1, e2⟩ := HR.out k p hp
        have hbw := HRI.out.bel
        have e0 := (hbw.cell (p := ⟨g, _, none⟩) hg).trans e0
        have e1 := (hbw.cell (p := ⟨g, _, none⟩) hg).trans e1
        rw [b2] at e1
        have e2 := (hbw.cell (p := ⟨g, _, none⟩) hg).trans e2
        have hk0 : (0 : Int) ≤ (k : Int) := by omega
        have hk1 : (k : Int) < (old.length : Int) := by omega
        have hd1 : decide (k < old.length) = true := by simpa using hlt
        have w1 : IntKind.i64.wrap ((st.i : Int) + p.len) = (st.i : Int) + p.len := IntWalk.i64_in _ (by omega)
        have w2 : IntKind.i64.wrap ((st.i : Int) + p.len + 100) = (st.i : Int) + p.len + 100 := IntWalk.i64_in _ (by omega)
        have w3 : IntKind.i64.wrap ((st.i : Int) + p.len + 100 + 1) = (st.i : Int) + p.len + 100 + 1 := IntWalk.i64_in _ (by omega)
        have Q2 := Lib.hid q2
        have Q3 := Lib.hid q3
        have Q4 := Lib.hid q4
        have Q5 := Lib.hid q5
        have HP := Lib.hid hp
        clear q2 q3 q4 q5 hp hbw
        have B2 := Lib.hid b2
        clear b2
        cases hd : decide ((st.i : Int) + p.len + 100 + 1 < (x : Int))
        · go_wp2_with fail
          go_quiet (fail)
          go_wp2_with fail
          go_meet
          exact ⟨k, st, hk, ht, hix, Lib.hid (HRI.out.bl h6 (bl _ _)), HF, HT⟩
        · go_wp2_with fail
          go_quiet (fail)
          have hlk : (old.take k).length = k := by rw [List.length_take]; omega
          go_upto_region 7 with fail
          go_cut [] from 48 to 54 (fun wy => Hid (RI w was now ins x d (.slice (some ⟨g, o, none⟩) old.length ca) (old.take k ++ [p]) k st st wy))
          case first =>
            obtain ⟨vo, ho7, hor, hon⟩ := HRI.out.out_
            have c7 := ho7.cell
            have f7 := ho7.frozen
            have l7 := ho7.lt
            have n7 := not_own hor ho7 (by simp)
            have hbs := HRI.out.bel.size
            have HOR := Lib.hid hor
            rw [hlk] at hor
            have HORk := Lib.hid hor
            have HO7 := Lib.hid ho7
            clear hor ho7 hon
            have c7a : ∀ (n : Nat) (ob : Obj), ((wr.drewN n).alloc ob).cell? ⟨w.heap.size + 7, 0, none⟩ = some vo := fun n ob => (Below.heap_alloc_cell (wr.drewN n) ob _ l7).trans c7
            refine wp_region_noPanic ?_
            go_region_law ((refine step_append_lies _ (by rfl) _ _ _ (by rfl) w.heap.size 59 i0 _ 3 24 Tryz.underlying23 hi0 hz0 hz1 hz2 rfl (by omega) vo _ _ (by rfl) ((World.ownsRow.kept HORk.out (World.grownBy_drewN wr _ none) (none_row _)).alloc _) ⟨wr.heap.size, 0, none⟩ 1 1 [.int .i64 p.kind, .int .i64 st.i, .int .i64 p.len] (by rfl) (by rfl) (World.news_of_block (cs := #[.int .i64 p.kind, .int .i64 st.i, .int .i64 p.len]) (t := 59) (fr := (0, 0)) (heap_alloc_new (wr.drewN _) _)) (by simp [Value.oneCell']) (by omega) (by unfold maxLen; omega) (by omega) (size_an hbs _ _) (wr.heap.size + 1) (by simp) ?_; intro gg cap w10 hown1 hgrow hat hgl; obtain ⟨m7, fm7, lm7⟩ := out_far (W := wr) (W' := wr.drewN _) rfl hgrow c7 f7 n7))
            all_goals refine NoPanic.normal ?_
            all_goals go_wp2_with fail
            all_goals go_meet
            all_goals exact Lib.hid (RI.more (HRI.out.bl h6 (bl wr _)) h6 HO7.out HOR.out (by rw [hlk]; exact hown1) (by simp only [pcCells, B2.out]) hgrow).1
          case rest =>
            have HRI2 := hcut
            have hdx : st.i + p.len + 101 < x := by simp only [decide_eq_true_eq] at hd; omega
            have HA := Lib.hid (qNext_agree was.data.toList now.data.toList x st.i st.op HAG.out (by simpa using hxn) Q2.out (by have := congrArg Pc.len Q4.out; simp only at this; omega))
            have HS := Lib.hid (to_step (l := was.data.toList) (l' := now.data.toList) (tt := st) Q2.out Q4.out HA.out (by simp; omega) Q3.out)
            have HAF := Lib.hid (qAfter_agree st HAG.out (by omega) p.kind p.len)
            have hix2 : st.i + p.len ≤ x := by omega
            clear hcut hd
            obtain ⟨a0, a1, a3, a5, a6⟩ := HRI2.out.con
            have c0 := a0.cell
            have c3 := a3.cell
            have c5 := a5.cell
            have c8 := HRI2.out.next_.cell
            have f8 := HRI2.out.next_.frozen
            have hbw := HRI2.out.bel
            clear e0 e1 e2
            obtain ⟨g', o', hgo, hg', x0, x1, x2⟩ := HR.out k p HP.out
            obtain ⟨rfl, rfl⟩ : g' = g ∧ o' = o := by simpa using hgo.symm
            have E := Lib.hid (And.intro hg' (And.intro x0 (And.intro x1 x2)))
            have e0 := (hbw.cell (p := ⟨g', _, none⟩) hg').trans x0
            have e1 := (hbw.cell (p := ⟨g', _, none⟩) hg').trans x1
            have e2 := (hbw.cell (p := ⟨g', _, none⟩) hg').trans x2
            rw [B2.out] at e1
            clear x0 x1 x2
            have HD := Lib.hid (HRI2.out.drew h6)
            clear a0 a1 a3 a5 a6 hbw
            go_wp2_with fail
            go_region_held3 (fun w' => w'.cell? ⟨w.heap.size + 3, 0, none⟩ = some (.pointer (some ⟨w.heap.size + 2, 0, none⟩)) ∧ w'.cell? ⟨w.heap.size, 0, none⟩ = some (.slice (some ⟨g', o', none⟩) old.length ca) ∧ w'.cell? ⟨w.heap.size + 8, 0, none⟩ = some (.int .i64 k) ∧ w'.cell? ⟨g', o' + k * 3, none⟩ = some (.int .i64 p.kind) ∧ w'.cell? ⟨g', o' + k * 3 + 1, none⟩ = some (.int .i64 st.i) ∧ w'.cell? ⟨g', o' + k * 3 + 2, none⟩ = some (.int .i64 p.len)) (first | go_keep)
              (first
                | (go_at_call 58; refine (take_any now (w.heap.size + 2) p.len p.kind st (by omega) (by omega) hns ht Q3.out _ HD.out.to_).mono ?_; rintro e w2 ⟨rfl, hc2, hg2⟩; have HR2 := Lib.hid (HD.out.moved h6 hg2 hc2); obtain ⟨m0, m3, m5, m8, r0, r1, r2⟩ := RI.reads HR2.out E.out.1 E.out.2.1 E.out.2.2.1 E.out.2.2.2; rw [B2.out] at r1))
            clear c0 c3 c5 c8 e0 e1 e2
            have HD2 := Lib.hid (HR2.out.drew h6)
            go_wp2_with fail
            go_region_held3 (fun w' => w'.cell? ⟨w.heap.size + 5, 0, none⟩ = some (.pointer (some ⟨w.heap.size + 4, 0, none⟩)) ∧ w'.cell? ⟨w.heap.size, 0, none⟩ = some (.slice (some ⟨g', o', none⟩) old.length ca) ∧ w'.cell? ⟨w.heap.size + 8, 0, none⟩ = some (.int .i64 k) ∧ w'.cell? ⟨g', o' + k * 3, none⟩ = some (.int .i64 p.kind) ∧ w'.cell? ⟨g', o' + k * 3 + 1, none⟩ = some (.int .i64 st.i) ∧ w'.cell? ⟨g', o' + k * 3 + 2, none⟩ = some (.int .i64 p.len)) (first | go_keep)
              (first
                | (go_at_call 58; refine (take_any was (w.heap.size + 4) p.len p.kind st q1 b3 hws ht Q3.out _ HD2.out.fr_).mono ?_; rintro e w3 ⟨rfl, hc3, hg3⟩; have HR3 := Lib.hid (HD2.out.followed h6 hg3 hc3); obtain ⟨y0, y3, y5, y8, z0, z1, z2⟩ := RI.reads HR3.out E.out.1 E.out.2.1 E.out.2.2.1 E.out.2.2.2; rw [B2.out] at z1))
            clear m0 m3 m5 m8 r0 r1 r2
            have f8' := HR3.out.next_.frozen
            have l8' := HR3.out.next_.lt
            go_wp2_with fail
            go_roundw
            case rel =>
              refine ⟨k + 1, qAfter was.data.toList st p.kind p.len, by omega, qAfter_t ht Q3.out, by rw [qAfter_i]; exact hix2, Lib.hid ?_, Lib.hid Q5.out, Lib.hid ?_⟩
              · rw [take_succ' HP.out]
                have := HR3.out.stepped h6
                rw [HAF.out] at this
                exact this
              · rw [HT.out, HS.out, take_succ' HP.out, HAF.out, ← B2.out]; simp
            case measure => rw [cellNat_eq (HR3.out.stepped h6).next_.cell, cellNat_eq HRI.out.next_.cell]; omega
      · have hd1 : decide (k < old.length) = false := by simpa using hlt
        go_wp2_with fail
        go_quiet (fail)
        go_wp2_with fail
        go_meet
        exact ⟨k, st, hk, ht, hix, Lib.hid (HRI.out.bl h6 (bl _ _)), HF, HT⟩
  case rest =>
    obtain ⟨k, st, hk, ht, hix, HRI, HF, HT⟩ := hcut
    obtain ⟨a0, a1, a3, a5, a6⟩ := HRI.out.con
    have c3 := a3.cell
    clear a0 a1 a3 a5 a6
    have hmf : ∀ (fn : Fn) (first cap : Array Value) (w : World), (Instr.makeFunc fn first cap).run Tryz.prog w = .ok (.func fn first cap) w := fun _ _ _ _ => rfl
    have l8 := HRI.out.next_.lt
    go_wp2_with fail
    refine (wpIn_wide (n := 2)).1 ?_
    refine range_cut_slot 14 now (w.heap.size + 2) hns st (by omega) ht rfl
      (fun pre xx W => ∃ (next : Nat) (fr : St), next ≤ old.length ∧ (fr.t ≤ 6000 ∧ fr.i ≤ was.size) ∧ RI w was now ins x d (.slice aa old.length ca) (old.take k ++ pre) next fr xx W ∧ qFrom was.data.toList fr = (old.drop next, none))
      (fun c pre xx W => c = .exit 2 ∧ ∃ (next : Nat) (fr : St), next ≤ old.length ∧ (fr.t ≤ 6000 ∧ fr.i ≤ was.size) ∧ xx.t ≤ 6000 ∧ RI w was now ins x d (.slice aa old.length ca) (old.take k ++ pre) next fr xx W ∧ qFrom was.data.toList fr = (old.drop next, none) ∧ x + ins.size ≤ xx.i ∧ (fr.i : Int) + ((now.size : Int) - was.size) = xx.i ∧ fr.op = xx.op ∧ qFrom now.data.toList st = (pre ++ (qFrom now.data.toList xx).1, (qFrom now.data.toList xx).2))
      (fun pre xx W ⟨_, _, _, _, h, _⟩ => ⟨h.to_, h.env⟩) (fun pre xx xx' W W' ⟨next, fr, b1, b2, h, b3⟩ hg hc => ⟨next, fr, b1, b2, h.moved h6 hg hc, b3⟩)
      ?stab ?stabx ⟨k, st, hk, ⟨ht, by omega⟩, by simpa using HRI.out, HF.out⟩ ?assign ?body ?done ?stop ?panic
    case stab =>
      rintro pre xx _ W W' row ⟨next, fr, b1, b2, h, b3⟩ hg hrow
      exact ⟨next, fr, b1, b2, h.kept h6 hg (fun r e => by obtain ⟨r1, o, ho, hcl⟩ := hrow r e; exact ⟨by omega, o, ho, fun cs fr e => by subst e; cases hcl⟩), b3⟩
    case stabx =>
      rintro c pre xx _ W W' row ⟨rfl, next, fr, b1, b2, b4, h, b3⟩ hg hrow
      exact ⟨rfl, next, fr, b1, b2, b4, h.kept h6 hg (fun r e => by obtain ⟨r1, o, ho, hcl⟩ := hrow r e; exact ⟨by omega, o, ho, fun cs fr e => by subst e; cases hcl⟩), b3⟩
    case assign =>
      intro l p W K hK
      simp only [rnd, List.setIfInBounds_toArray, List.set_cons_succ, List.set_cons_zero] at hK
      simp only [PcV] at hK ⊢
      gi_wp2
      exact hK
    case body =>
      rintro l pre xx p pb W ⟨next, fr, hn, hft, hRI, hFr⟩ hp hpb ⟨hxi, hxt⟩ hpx hq
      simp only [rnd, List.setIfInBounds_toArray, List.set_cons_succ, List.set_cons_zero]
      have HR' := Lib.hid hRI
      have HFr := Lib.hid hFr
      have HQ := Lib.hid hq
      clear hRI hFr hq
      obtain ⟨vo, ho7, hor, hon⟩ := HR'.out.out_
      have c7 := ho7.cell
      have hcount : (old.take k ++ pre).length + 1 ≤ 40000 := by
        have := qFrom_length now.data.toList st
        rw [HQ.out] at this; simp at this; rw [List.length_append, List.length_take]; omega
      have hbs := HR'.out.bel.size
      obtain ⟨p0, p1, p2, _, _, _⟩ := cells3 hp
      have HOR := Lib.hid hor
      clear hon
      gi_wp2_with (gi_at_builtin; refine wpListIn_append_own _ rfl _ _ 23 rfl w.heap.size 59 i0 (.agg #[.int .i64 0, .int .i64 0, .int .i64 0]) 3 24 Tryz.underlying23 hi0 hz0 hz1 hz2 rfl (by decide) _ _ _ rfl (hor.alloc _) ⟨W.heap.size, 0, none⟩ 1 1 (pcCells p) rfl rfl (cells_three_new _ _ _ _ _) (by simp [pcCells, Value.oneCell']) (by unfold maxLen; omega) (by omega) (by rw [World.size_alloc]; omega) ?_; intro v' w1 hown' hgrow _; obtain ⟨g', cap', rfl⟩ := ownsRow_succ hown'; have hfin := Lib.hid (RI.more HR'.out h6 ho7 hor hown' rfl hgrow); obtain ⟨hv1, _, _, _, _⟩ := ho7.appended (by decide) hor hbs (by omega) hown' hgrow; have hc1 := hv1.cell; have hf1 := hv1.frozen)
      have hlen0 : (old.take k ++ pre).length = k + pre.length := by rw [List.length_append, List.length_take, Nat.min_eq_left hk]
      have HFIN := Lib.hid hfin.out
      clear hfin hown' hgrow hv1 hc1 hf1 hor ho7 c7 p0 p1 p2
      gi_loopw [] (fun wy => ∃ (nx : Nat) (fr2 : St), nx ≤ old.length ∧ (fr2.t ≤ 6000 ∧ fr2.i ≤ was.size) ∧ Hid (RI w was now ins x d (.slice aa old.length ca) ((old.take k ++ pre) ++ [p]) nx fr2 xx wy) ∧ Hid (qFrom was.data.toList fr2 = (old.drop nx, none)) ∧ Hid (KeepsFrom (w.heap.size + 9) W wy)) (fun wy => old.length - cellNat (w.heap.size + 8) 0 wy)
      case atStart =>
        have h := HFIN.out
        rw [hlen0] at h
        exact ⟨next, fr, hn, hft, Lib.hid h.1, HFr, Lib.hid h.2⟩
      case round =>
        obtain ⟨nx, fr2, hnx, hft2, H2, HF2, HK2⟩ := hrel
        clear HFIN HFr
        obtain ⟨a0, a1, a3, a5, a6⟩ := H2.out.con
        have c0 := a0.cell
        have c3 := a3.cell
        have c5 := a5.cell
        have c6 := a6.cell
        have c8 := H2.out.next_.cell
        have f8 := H2.out.next_.frozen
        have l8 := H2.out.next_.lt
        obtain ⟨d0, _, d2⟩ := cells3g a1
        obtain ⟨_, u1, _, u3⟩ := H2.out.to_.cut
        obtain ⟨_, v1, _, v3⟩ := H2.out.fr_.cut
        clear a0 a1 a3 a5 a6
        have hws1 : IntKind.i64.wrap ((fr2.i : Int) + ((now.size : Int) - (was.size : Int))) = (fr2.i : Int) + ((now.size : Int) - (was.size : Int)) := IntWalk.i64_in _ (by omega)
        have hws2 : IntKind.i64.wrap ((x : Int) + (ins.size : Int)) = (x : Int) + (ins.size : Int) := IntWalk.i64_in _ (by omega)
        cases hg1 : decide (nx < old.length)
        · gi_wp2_with fail
          refine wpIn_round_quiet (by kernel_rfl) (by kernel_rfl) (by kernel_rfl) ?_
          repeat (go_big_quiet_step (fail))
          refine wpQuiet_nil ?_
          rintro _ ⟨nq, rfl⟩
          gi_wp2_with fail
          have H3 := Lib.hid (H2.out.bl h6 (bl wr nq))
          have HK3 := Lib.hid (HK2.out.trans (keeps_bl (bl wr nq)))
          cases t1 : decide (x + ins.size ≤ xx.i)
          · have t1' : decide ((x : Int) + ins.size ≤ xx.i) = false := by simp at t1 ⊢; omega
            refine wpIn_round_quiet (by kernel_rfl) (by kernel_rfl) (by kernel_rfl) ?_
            repeat (go_big_quiet_step (fail))
            refine wpQuiet_nil ?_
            rintro _ ⟨nq2, rfl⟩
            gi_wp2_with fail
            first
              | exact ⟨keeps_more (HK3.out.trans (keeps_bl (bl (wr.drewN nq) _))) (by omega), nx, fr2, hnx, hft2, by rw [← List.append_assoc]; exact H3.out.bl h6 (bl (wr.drewN nq) _), HF2.out⟩
              | exact ⟨keeps_more (HK2.out.trans (keeps_bl (bl wr _))) (by omega), nx, fr2, hnx, hft2, by rw [← List.append_assoc]; exact H2.out.bl h6 (bl wr _), HF2.out⟩
          · have t1' : decide ((x : Int) + ins.size ≤ xx.i) = true := by simp at t1 ⊢; omega
            cases t2 : ((fr2.i : Int) + ((now.size : Int) - (was.size : Int)) == (xx.i : Int))
            · refine wpIn_round_quiet (by kernel_rfl) (by kernel_rfl) (by kernel_rfl) ?_
              repeat (go_big_quiet_step (fail))
              refine wpQuiet_nil ?_
              rintro _ ⟨nq2, rfl⟩
              gi_wp2_with fail
              first
                | exact ⟨keeps_more (HK3.out.trans (keeps_bl (bl (wr.drewN nq) _))) (by omega), nx, fr2, hnx, hft2, by rw [← List.append_assoc]; exact H3.out.bl h6 (bl (wr.drewN nq) _), HF2.out⟩
                | exact ⟨keeps_more (HK2.out.trans (keeps_bl (bl wr _))) (by omega), nx, fr2, hnx, hft2, by rw [← List.append_assoc]; exact H2.out.bl h6 (bl wr _), HF2.out⟩
            · cases t3 : (fr2.op == xx.op)
              · refine wpIn_round_quiet (by kernel_rfl) (by kernel_rfl) (by kernel_rfl) ?_
                repeat (go_big_quiet_step (fail))
                refine wpQuiet_nil ?_
                rintro _ ⟨nq2, rfl⟩
                gi_wp2_with fail
                first
                  | exact ⟨keeps_more (HK3.out.trans (keeps_bl (bl (wr.drewN nq) _))) (by omega), nx, fr2, hnx, hft2, by rw [← List.append_assoc]; exact H3.out.bl h6 (bl (wr.drewN nq) _), HF2.out⟩
                  | exact ⟨keeps_more (HK2.out.trans (keeps_bl (bl wr _))) (by omega), nx, fr2, hnx, hft2, by rw [← List.append_assoc]; exact H2.out.bl h6 (bl wr _), HF2.out⟩
              · refine wpIn_round_quiet (by kernel_rfl) (by kernel_rfl) (by kernel_rfl) ?_
                repeat (go_big_quiet_step (fail))
                refine wpQuiet_nil ?_
                rintro _ ⟨nq2, rfl⟩
                gi_wp2_with fail
                have hx1 : x + ins.size ≤ xx.i := by simpa using t1
                have hx2 : (fr2.i : Int) + ((now.size : Int) - (was.size : Int)) = (xx.i : Int) := by simpa using t2
                have hx3 : fr2.op = xx.op := by simpa using t3
                have hx4 : qFrom now.data.toList st = ((pre ++ [p]) ++ (qFrom now.data.toList xx).1, (qFrom now.data.toList xx).2) := by rw [HQ.out]; simp
                first
                  | exact ⟨keeps_more (HK3.out.trans (keeps_bl (bl (wr.drewN nq) _))) (by omega), rfl, nx, fr2, hnx, hft2, hxt, by rw [← List.append_assoc]; exact H3.out.bl h6 (bl (wr.drewN nq) _), HF2.out, hx1, hx2, hx3, hx4⟩
                  | exact ⟨keeps_more (HK2.out.trans (keeps_bl (bl wr _))) (by omega), rfl, nx, fr2, hnx, hft2, hxt, by rw [← List.append_assoc]; exact H2.out.bl h6 (bl wr _), HF2.out, hx1, hx2, hx3, hx4⟩
        · cases hg2 : decide ((fr2.i : Int) + ((now.size : Int) - (was.size : Int)) < (xx.i : Int))
          · gi_wp2_with fail
            refine wpIn_round_quiet (by kernel_rfl) (by kernel_rfl) (by kernel_rfl) ?_
            repeat (go_big_quiet_step (fail))
            refine wpQuiet_nil ?_
            rintro _ ⟨nq, rfl⟩
            gi_wp2_with fail
            have H3 := Lib.hid (H2.out.bl h6 (bl wr nq))
            have HK3 := Lib.hid (HK2.out.trans (keeps_bl (bl wr nq)))
            cases t1 : decide (x + ins.size ≤ xx.i)
            · have t1' : decide ((x : Int) + ins.size ≤ xx.i) = false := by simp at t1 ⊢; omega
              refine wpIn_round_quiet (by kernel_rfl) (by kernel_rfl) (by kernel_rfl) ?_
              repeat (go_big_quiet_step (fail))
              refine wpQuiet_nil ?_
              rintro _ ⟨nq2, rfl⟩
              gi_wp2_with fail
              first
                | exact ⟨keeps_more (HK3.out.trans (keeps_bl (bl (wr.drewN nq) _))) (by omega), nx, fr2, hnx, hft2, by rw [← List.append_assoc]; exact H3.out.bl h6 (bl (wr.drewN nq) _), HF2.out⟩
                | exact ⟨keeps_more (HK2.out.trans (keeps_bl (bl wr _))) (by omega), nx, fr2, hnx, hft2, by rw [← List.append_assoc]; exact H2.out.bl h6 (bl wr _), HF2.out⟩
            · have t1' : decide ((x : Int) + ins.size ≤ xx.i) = true := by simp at t1 ⊢; omega
              cases t2 : ((fr2.i : Int) + ((now.size : Int) - (was.size : Int)) == (xx.i : Int))
              · refine wpIn_round_quiet (by kernel_rfl) (by kernel_rfl) (by kernel_rfl) ?_
                repeat (go_big_quiet_step (fail))
                refine wpQuiet_nil ?_
                rintro _ ⟨nq2, rfl⟩
                gi_wp2_with fail
                first
                  | exact ⟨keeps_more (HK3.out.trans (keeps_bl (bl (wr.drewN nq) _))) (by omega), nx, fr2, hnx, hft2, by rw [← List.append_assoc]; exact H3.out.bl h6 (bl (wr.drewN nq) _), HF2.out⟩
                  | exact ⟨keeps_more (HK2.out.trans (keeps_bl (bl wr _))) (by omega), nx, fr2, hnx, hft2, by rw [← List.append_assoc]; exact H2.out.bl h6 (bl wr _), HF2.out⟩
              · cases t3 : (fr2.op == xx.op)
                · refine wpIn_round_quiet (by kernel_rfl) (by kernel_rfl) (by kernel_rfl) ?_
                  repeat (go_big_quiet_step (fail))
                  refine wpQuiet_nil ?_
                  rintro _ ⟨nq2, rfl⟩
                  gi_wp2_with fail
                  first
                    | exact ⟨keeps_more (HK3.out.trans (keeps_bl (bl (wr.drewN nq) _))) (by omega), nx, fr2, hnx, hft2, by rw [← List.append_assoc]; exact H3.out.bl h6 (bl (wr.drewN nq) _), HF2.out⟩
                    | exact ⟨keeps_more (HK2.out.trans (keeps_bl (bl wr _))) (by omega), nx, fr2, hnx, hft2, by rw [← List.append_assoc]; exact H2.out.bl h6 (bl wr _), HF2.out⟩
                · refine wpIn_round_quiet (by kernel_rfl) (by kernel_rfl) (by kernel_rfl) ?_
                  repeat (go_big_quiet_step (fail))
                  refine wpQuiet_nil ?_
                  rintro _ ⟨nq2, rfl⟩
                  gi_wp2_with fail
                  have hx1 : x + ins.size ≤ xx.i := by simpa using t1
                  have hx2 : (fr2.i : Int) + ((now.size : Int) - (was.size : Int)) = (xx.i : Int) := by simpa using t2
                  have hx3 : fr2.op = xx.op := by simpa using t3
                  have hx4 : qFrom now.data.toList st = ((pre ++ [p]) ++ (qFrom now.data.toList xx).1, (qFrom now.data.toList xx).2) := by rw [HQ.out]; simp
                  first
                    | exact ⟨keeps_more (HK3.out.trans (keeps_bl (bl (wr.drewN nq) _))) (by omega), rfl, nx, fr2, hnx, hft2, hxt, by rw [← List.append_assoc]; exact H3.out.bl h6 (bl (wr.drewN nq) _), HF2.out, hx1, hx2, hx3, hx4⟩
                    | exact ⟨keeps_more (HK2.out.trans (keeps_bl (bl wr _))) (by omega), rfl, nx, fr2, hnx, hft2, hxt, by rw [← List.append_assoc]; exact H2.out.bl h6 (bl wr _), HF2.out, hx1, hx2, hx3, hx4⟩
          · gi_wp2_with fail
            refine wpIn_round_quiet (by kernel_rfl) (by kernel_rfl) (by kernel_rfl) ?_
            repeat (go_big_quiet_step (fail))
            refine wpQuiet_nil ?_
            rintro _ ⟨nq, rfl⟩
            gi_wp2_with fail
            have H3 := Lib.hid (H2.out.bl h6 (bl wr nq))
            have HK3 := Lib.hid (HK2.out.trans (keeps_bl (bl wr nq)))
            have hlt : nx < old.length := by simpa using hg1
            obtain ⟨p2, hp2⟩ : ∃ p2, old[nx]? = some p2 := ⟨_, List.getElem?_eq_getElem hlt⟩
            obtain ⟨q1, q2, q3, q4, q5⟩ := fr_step HF2.out hp2
            obtain ⟨b1, b2, b3, b4⟩ := fr_bound q1 q2 q4
            simp only [Array.length_toList, ByteArray.size_data] at b3 q1
            obtain ⟨g2, o2, rfl, hgg, x0, x1, x2⟩ := HR.out nx p2 hp2
            have hbw := H3.out.bel
            have e0 : wr.cell? ⟨g2, o2 + nx * 3, none⟩ = _ := (hbw.cell (p := ⟨g2, _, none⟩) hgg).trans x0
            have e1 : wr.cell? ⟨g2, o2 + nx * 3 + 1, none⟩ = _ := (hbw.cell (p := ⟨g2, _, none⟩) hgg).trans x1
            have e2 : wr.cell? ⟨g2, o2 + nx * 3 + 2, none⟩ = _ := (hbw.cell (p := ⟨g2, _, none⟩) hgg).trans x2
            rw [b2] at e1
            have hk0 : (0 : Int) ≤ (nx : Int) := by omega
            have hk1 : (nx : Int) < (old.length : Int) := by omega
            have Q3 := Lib.hid q3
            have Q5 := Lib.hid q5
            have HP2 := Lib.hid hp2
            clear q2 q3 q4 q5 hp2 x0 x1 x2 hbw b2
            gi_cut [] from 168 (fun wy => Hid (RI w was now ins x d (.slice (some ⟨g2, o2, none⟩) old.length ca) ((old.take k ++ pre) ++ [p]) nx (qAfter was.data.toList fr2 p2.kind p2.len) xx wy) ∧ Hid (KeepsFrom (w.heap.size + 9) W wy))
            case first =>
              gi_region_with (refine ⟨trivial, rfl, (calls_round (take_any was (w.heap.size + 4) p2.len p2.kind fr2 q1 b3 hws hft2.1 Q3.out _ (H3.out.drew h6).fr_)).mono ?_⟩; rintro e w4 ⟨rfl, hc4, hg4⟩)
              all_goals gi_wp2_with fail
              all_goals gi_meet
              all_goals exact ⟨Lib.hid ((H3.out.drew h6).followed h6 hg4 hc4), Lib.hid (HK3.out.trans (keeps_bl ((Below.refl _ _).drew) |>.trans (KeepsFrom.of_grownBy hg4 (fun j e => by cases e; omega))))⟩
            case rest =>
              obtain ⟨H5, HK5⟩ := hcut
              have c8' := H5.out.next_.cell
              have f8' := H5.out.next_.frozen
              have l8' := H5.out.next_.lt
              gi_wp2_with fail
              go_roundw
              case rel => exact ⟨nx + 1, qAfter was.data.toList fr2 p2.kind p2.len, by omega, ⟨qAfter_t hft2.1 Q3.out, by rw [qAfter_i]; exact b3⟩, Lib.hid (H5.out.stepped h6), Lib.hid Q5.out, Lib.hid (HK5.out.trans (KeepsFrom.of_grownBy (grownBy_setCell' _ _ _) (fun j e => by cases e; omega)))⟩
              case measure => rw [cellNat_eq (H5.out.stepped h6).next_.cell, cellNat_eq H2.out.next_.cell]; omega
    case done =>
      rintro D pre xx W hD ⟨next, fr, hn, hft, hRI, hFr⟩ hq hxe hK
      have HR' := Lib.hid hRI
      have hRec : Hid (qFrom now.data.toList ⟨0, 0, false⟩ = (old.take k ++ pre, none)) := Lib.hid (by rw [HT.out, hq])
      have c3 := hRI.con.2.2.1.cell
      obtain ⟨d0, d1, _, _⟩ := hRI.to_.cut
      clear hRI hq
      go_wp2_with fail
      refine (done_any now (w.heap.size + 2) xx.i _ d0 d1).mono ?_
      rintro e w2 ⟨rfl, nq, rfl⟩
      rw [show decide (xx.i = now.size) = true by simpa using hxe]
      obtain ⟨vo, ho7, hor, hon⟩ := HR'.out.out_
      have c7 := ho7.cell
      have HK' : Hid ((W.drewN nq).heap[D]? = some (.deferred (some []))) := Lib.hid hK
      go_wp2_with fail
      refine ⟨by simp, .inl ⟨D, _, rfl, run_takeDeferred HK'.out, ?_⟩⟩
      have hbe := HR'.out.bel.trans ((bl W nq).mono HR'.out.bel.size)
      exact ⟨vo, by simp [results, Tryz.results53, go_sem], .inl ⟨vo, _, hRec.out, rfl, ownsRow_putObj (owns_bl' hor (bl W nq)) _ HK'.out rfl, hon⟩, hbe.trans (belowK_b (w := w) (Nat.le_refl _) _ D _ _ (by omega) HK'.out rfl rfl)⟩
    case stop =>
      rintro D c pre rest xx W hD ⟨rfl, next, fr, hn, hft, hxt, hRI, hFr, s1, s2, s3, s4⟩ hq hK
      have hxi : xx.i ≤ now.size := by omega
      have HR' := Lib.hid hRI
      have HT2 : Hid (qFrom now.data.toList ⟨0, 0, false⟩ = ((old.take k ++ pre) ++ (qFrom now.data.toList xx).1, (qFrom now.data.toList xx).2)) := Lib.hid (by rw [HT.out, s4]; simp)
      have c3 := hRI.con.2.2.1.cell
      obtain ⟨d0, d1, _, _⟩ := hRI.to_.cut
      have HFr := Lib.hid hFr
      clear hRI hq hFr s4
      refine wpIn_wide.2 ?_
      go_wp2_with fail
      refine (done_any now (w.heap.size + 2) xx.i _ d0 d1).mono ?_
      rintro e w2 ⟨rfl, nq, rfl⟩
      cases hdn : decide (xx.i = now.size)
      · have hxlt : xx.i < now.size := by
          have := (HR'.out.to_)
          simp only [decide_eq_false_iff_not] at hdn
          omega
        have hflt : fr.i < was.size := by omega
        have hnlt : next < old.length := by
          by_cases h : next < old.length
          · exact h
          · exfalso
            have h1 := HFr.out
            rw [List.drop_eq_nil_of_le (by omega)] at h1
            have := qFrom_nil h1
            simp at this; omega
        obtain ⟨g, o, rfl, hgg, _⟩ := HR.out next _ (List.getElem?_eq_getElem hnlt)
        obtain ⟨a0, a1, a3, a5, a6⟩ := HR'.out.con
        have k0 := a0.cell
        have k8 := HR'.out.next_.cell
        clear a0 a1 a3 a5 a6
        have hk0 : (0 : Int) ≤ (next : Int) := by omega
        have hk1 : (next : Int) ≤ (old.length : Int) := by omega
        go_wp2_with fail
        have HDk : Hid ((W.drewN nq).heap[D]? = some (.deferred (some []))) := Lib.hid hK
        have HR0 := Lib.hid (HR'.out.bl h6 (bl W nq))
        clear k0 k8 c3 d0 d1
        go_loopw [150] (fun ix wr => ∃ (j : Nat) (frj tt : St) (out : List Pc), j ≤ old.length - next ∧ ix = .int .i64 j ∧ Hid (RI w was now ins x d (.slice (some ⟨g, o, none⟩) old.length ca) out next fr tt wr) ∧ Hid (qFrom was.data.toList frj = (old.drop (next + j), none)) ∧ frj.t ≤ 6000 ∧ tt.t ≤ 6000 ∧ (frj.i : Int) + ((now.size : Int) - (was.size : Int)) = (tt.i : Int) ∧ frj.op = tt.op ∧ x + ins.size ≤ tt.i ∧ Hid (qFrom now.data.toList ⟨0, 0, false⟩ = (out ++ (qFrom now.data.toList tt).1, (qFrom now.data.toList tt).2)) ∧ Hid (wr.heap[D]? = some (.deferred (some [])))) (fun ix _ => old.length - next - (intOf ix).toNat)
        case atStart => exact ⟨0, fr, xx, old.take k ++ pre, by omega, rfl, HR0, HFr, hft.1, hxt, s2, s3, s1, HT2, HDk⟩
        case round =>
          obtain ⟨j, frj, tt, out, hj, rfl, H2, HF2, hfj, htt, hsh, hop, hxt2, HT3, HD2⟩ := hrel
          clear HR0 HR' HFr HT2 HDk
          obtain ⟨a0, a1, a3, a5, a6⟩ := H2.out.con
          have c3 := a3.cell
          have c6 := a6.cell
          have l3 := a3.lt
          have l6 := a6.lt
          obtain ⟨vo, ho7, hor, hon⟩ := H2.out.out_
          have c7 := ho7.cell
          have l7 := ho7.lt
          have hbs := H2.out.bel.size
          clear a0 a1 a3 a5 a6
          by_cases hlt : j < old.length - next
          · obtain ⟨p, hp⟩ : ∃ p, old[next + j]? = some p := ⟨_, List.getElem?_eq_getElem (by omega)⟩
            obtain ⟨q1, q2, q3, q4, q5⟩ := fr_step HF2.out hp
            obtain ⟨b1, b2, b3, b4⟩ := fr_bound q1 q2 q4
            simp only [Array.length_toList, ByteArray.size_data] at b3 q1
            obtain ⟨g2, o2, hgo, hgg2, x0, x1, x2⟩ := HR.out (next + j) p hp
            obtain ⟨rfl, rfl⟩ : g2 = g ∧ o2 = o := by simpa using hgo.symm
            have hbw := H2.out.bel
            have hadr : o2 + (next + j) * 3 = o2 + next * 3 + j * 3 := by omega
            rw [hadr] at x0 x1 x2
            have e0 : wr.cell? ⟨g2, o2 + next * 3 + j * 3, none⟩ = _ := (hbw.cell (p := ⟨g2, _, none⟩) hgg2).trans x0
            have e1 : wr.cell? ⟨g2, o2 + next * 3 + j * 3 + 1, none⟩ = _ := (hbw.cell (p := ⟨g2, _, none⟩) hgg2).trans x1
            have e2 : wr.cell? ⟨g2, o2 + next * 3 + j * 3 + 2, none⟩ = _ := (hbw.cell (p := ⟨g2, _, none⟩) hgg2).trans x2
            rw [b2] at e1
            have hdr := HDR.out tt.i frj.i hxt2 hsh
            have htl : tt.i < now.size := by omega
            have HN := Lib.hid (qNext_drop (l := was.data.toList) (l' := now.data.toList) hdr.symm frj.op)
            rw [hop] at HN
            have Q2 := Lib.hid q2
            have Q4 := Lib.hid q4
            have Q5 := Lib.hid q5
            have HDP := Lib.hid hdr
            have HPP := Lib.hid hp
            have hj0 : (0 : Int) ≤ (j : Int) := by omega
            have hj1 : (j : Int) < ((old.length - next : Nat) : Int) := by omega
            have hd : decide (j < old.length - next) = true := by simpa using hlt
            have B2 := Lib.hid b2
            clear q2 q4 q5 hdr hp x0 x1 x2 hbw b2 hadr
            have hbA := (Below.refl wr.heap.size wr).alloc (Nat.le_refl _) (.cells #[.int .i64 p.kind, .int .i64 tt.i, .int .i64 p.len] 59)
            have HRA := Lib.hid (H2.out.bl h6 hbA)
            have HDA : Hid ((wr.alloc (.cells #[.int .i64 p.kind, .int .i64 tt.i, .int .i64 p.len] 59)).heap[D]? = some (.deferred (some []))) := Lib.hid (heap_bl HD2.out hbA)
            obtain ⟨pa0, pa1, pa2, _, _, _⟩ := cells3 (w := wr.alloc (.cells #[.int .i64 p.kind, .int .i64 tt.i, .int .i64 p.len] 59)) (heap_alloc_new wr _)
            have HON := Lib.hid hon
            have HOR := Lib.hid hor
            clear hon hor ho7
            by_cases hmany : p.kind < 7 ∧ tt.t = 6000
            · have hcb := HRA.out.to_
              have HB := Lib.hid hcb
              rw [hmany.2] at hcb
              have HCB := Lib.hid hcb
              have HER := Lib.hid (to_many (l := was.data.toList) (l' := now.data.toList) (tt := tt) Q2.out Q4.out (by rw [← hop] at HN ⊢; exact HN) (by simpa using htl) hmany.1 hmany.2)
              clear hcb
              go_wp2_with fail
              refine (take_bad now (w.heap.size + 2) tt.i p.len p.kind tt.op hmany.1 _ HCB.out).mono ?_
              rintro e w4 ⟨rfl, hb4⟩
              unfold refusal
              go_wp2_with fail
              have hK4 := heap_bl HDA.out hb4
              refine ⟨by simp, .inl ⟨D, _, rfl, run_takeDeferred hK4, ?_⟩⟩
              exact ⟨.inr ⟨_, 2, tt.i, by rw [HT3.out, HER.out], rfl⟩, (HRA.out.bel.trans (hb4.mono HRA.out.bel.size)).trans (belowK_b (w := w) (Nat.le_refl _) _ D _ _ (by omega) hK4 rfl rfl)⟩
            · have HS := Lib.hid (to_step (l := was.data.toList) (l' := now.data.toList) (tt := tt) Q2.out Q4.out (by rw [← hop] at HN ⊢; exact HN) (by simpa using htl) hmany)
              go_wp2_with fail
              refine (take_any now (w.heap.size + 2) p.len p.kind tt htl (by omega) hns htt hmany _ HRA.out.to_).mono ?_
              rintro e w4 ⟨rfl, hc4, hg4⟩
              have HR4 := Lib.hid (HRA.out.moved h6 hg4 hc4)
              have hp4 := (hg4.block wr.heap.size (by rw [World.size_alloc]; omega) (fun e => by have := Option.some.inj e; omega)).trans (heap_alloc_new wr (.cells #[.int .i64 p.kind, .int .i64 tt.i, .int .i64 p.len] 59))
              obtain ⟨pb0, pb1, pb2, _, _, _⟩ := cells3 hp4
              have hD4 : Hid (w4.heap[D]? = some (.deferred (some []))) := Lib.hid ((hg4.block D (Array.getElem?_eq_some_iff.1 HDA.out).1 (fun e => by cases e; omega)).trans HDA.out)
              obtain ⟨vo4, ho74, hor4, hon4⟩ := HR4.out.out_
              have c74 := ho74.cell
              have f74 := ho74.frozen
              have l74 := ho74.lt
              have hbs4 := HR4.out.bel.size
              have hcnt : out.length + 1 ≤ 40000 := by
                have := qFrom_length now.data.toList ⟨0, 0, false⟩
                rw [HT3.out] at this; simp at this; omega
              clear c7 e0 e1 e2 c3 c6 hbA hc4 hg4 hp4 hon4 pa0 pa1 pa2
              go_wp2_with (at_builtin; refine wpList_append_own _ rfl _ _ 23 rfl w.heap.size 59 i0 (.agg #[.int .i64 0, .int .i64 0, .int .i64 0]) 3 24 Tryz.underlying23 hi0 hz0 hz1 hz2 rfl (by decide) _ _ _ rfl (hor4.alloc _) ⟨w4.heap.size, 0, none⟩ 1 1 (pcCells ⟨p.kind, tt.i, p.len⟩) rfl rfl (cells_three_new _ _ _ _ _) (by simp [pcCells, Value.oneCell']) (by unfold maxLen; omega) (by omega) (by rw [World.size_alloc]; omega) ?_; intro v' w1 hown' hgrow _; obtain ⟨g', cap', rfl⟩ := ownsRow_succ hown'; have hfin := Lib.hid (RI.more HR4.out h6 ho74 hor4 hown' rfl hgrow); obtain ⟨hv1, _, _, _, _⟩ := ho74.appended (by decide) hor4 hbs4 (by omega) hown' hgrow; have hc1 := hv1.cell; have hf1 := hv1.frozen)
              go_roundw
              case rel =>
                refine ⟨j + 1, qAfter was.data.toList frj p.kind p.len, qAfter now.data.toList tt p.kind p.len, out ++ [⟨p.kind, tt.i, p.len⟩], by omega, rfl, Lib.hid hfin.out.1, Lib.hid Q5.out, qAfter_t hfj q3, qAfter_t htt hmany, by rw [qAfter_i, qAfter_i]; omega, ?_, by rw [qAfter_i]; omega, Lib.hid (by rw [HT3.out, HS.out]; simp), Lib.hid (hfin.out.2.same D _ (by omega) hD4.out rfl)⟩
                unfold qAfter
                split
                · exact (qOper_drop HDP.out.symm p.kind).symm
                · exact hop
              case measure => simp [intOf]; omega
          · have hd : decide (j < old.length - next) = false := by simpa using hlt
            have hnil : qFrom was.data.toList frj = ([], none) := by rw [HF2.out, List.drop_eq_nil_of_le (by omega)]
            have hge := qFrom_nil hnil
            simp only [Array.length_toList, ByteArray.size_data] at hge
            have hRec : Hid (qFrom now.data.toList ⟨0, 0, false⟩ = (out, none)) := Lib.hid (by rw [HT3.out, qFrom_end _ tt (by simp; omega)]; simp)
            have HON := Lib.hid hon
            clear hnil hon
            go_wp2_with fail
            refine ⟨by simp, .inl ⟨D, _, rfl, run_takeDeferred HD2.out, ?_⟩⟩
            exact ⟨vo, by simp [results, Tryz.results53, go_sem], .inl ⟨vo, _, hRec.out, rfl, ownsRow_putObj hor _ HD2.out rfl, HON.out⟩, H2.out.bel.trans (belowK_b (w := w) (Nat.le_refl _) _ D _ _ (by omega) HD2.out rfl rfl)⟩
      · have hxe : xx.i = now.size := by simpa using hdn
        have hRec : Hid (qFrom now.data.toList ⟨0, 0, false⟩ = (old.take k ++ pre, none)) := Lib.hid (by rw [HT2.out, qFrom_end _ xx (by simp; omega)]; simp)
        have HK' : Hid ((W.drewN nq).heap[D]? = some (.deferred (some []))) := Lib.hid hK
        obtain ⟨vo, ho7, hor, hon⟩ := HR'.out.out_
        have c7 := ho7.cell
        have HON := Lib.hid hon
        clear hon
        go_wp2_with fail
        refine ⟨by simp, .inl ⟨D, _, rfl, run_takeDeferred HK'.out, ?_⟩⟩
        have hbe := HR'.out.bel.trans ((bl W nq).mono HR'.out.bel.size)
        exact ⟨vo, by simp [results, Tryz.results53, go_sem], .inl ⟨vo, _, hRec.out, rfl, ownsRow_putObj (owns_bl' hor (bl W nq)) _ HK'.out rfl, HON.out⟩, hbe.trans (belowK_b (w := w) (Nat.le_refl _) _ D _ _ (by omega) HK'.out rfl rfl)⟩
    case panic =>
      rintro D pre xx er W hD ⟨next, fr, hn, hft, hRI, hFr⟩ her hq hK
      have hRec : Hid (qFrom now.data.toList ⟨0, 0, false⟩ = (old.take k ++ pre, some (er, xx.i))) := Lib.hid (by rw [HT.out, hq])
      go_wp2_with fail
      refine ⟨by simp, .inl ⟨D, _, rfl, run_takeDeferred hK, ?_⟩⟩
      exact ⟨.inr ⟨_, er, xx.i, hRec.out, rfl⟩, hRI.bel.trans (belowK_b (w := w) (Nat.le_refl _) _ D _ _ (by omega) hK rfl rfl)⟩
end Go.Proofs.YtdfkkeeohbgmbaaGreatDoor
