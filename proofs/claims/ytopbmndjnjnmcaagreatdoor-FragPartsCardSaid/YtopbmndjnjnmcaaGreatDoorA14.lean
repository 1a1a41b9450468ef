/- Package lex: the iterator over pieces. -/
import Derived.RangeFuncNested
import Derived.RangeFuncBound
import Derived.RangeFuncCalls
import Derived.RangeFuncLeaves
import Derived.Shelf.Abstract
import Derived.Shelf.RegionOpen
import Derived.WalkKit
import Derived.OwnWalkIn
import Derived.TacticsInMore
import Derived.LoopNIn
import Derived.LoopIn
import Derived.Test.YtopbmndjnjnmcaaGreatDoorA13
namespace Go.Proofs.YtopbmndjnjnmcaaGreatDoor
open Go.RowKit Lx

attribute [local go_sem] Oper.semAt_some

def PcV (p : Pc) : Value := .agg #[.int .i64 (p.kind : Int), .int .i64 (p.at_ : Int), .int .i64 (p.len : Int)]

theorem Env.kept {w w' : World} (h : Env w) {b : Nat} (hb6 : 6 ≤ b) (hg : w.grownBy w' (some b)) : Env w' := by
  have hs := h.size
  have hb : Below 6 w w' := ⟨hg.os, hg.tape, hg.output, hg.size, fun k hk => hg.block k (by omega) (fun e => by cases e; omega)⟩
  obtain ⟨m, hm⟩ := h.max
  obtain ⟨t2, p2, h2⟩ := h.syn
  obtain ⟨t3, p3, h3⟩ := h.rng
  exact ⟨⟨m, (hb.cell (p := ⟨0, 0, none⟩) (by show 0 < _; omega)).trans hm⟩, ⟨t2, p2, (hb.cell (p := ⟨1, 0, none⟩) (by show 1 < _; omega)).trans h2⟩, ⟨t3, p3, (hb.cell (p := ⟨2, 0, none⟩) (by show 2 < _; omega)).trans h3⟩,
    var?_below hb pow10_global (by omega) h.tab, Nat.le_trans hs hb.size⟩

/-- What is left, read off the world. -/
def leftOf (s : ByteArray) (b : Nat) (w : World) : Nat := match w.cell? ⟨b, 1, none⟩ with | some v => s.size - (intOf v).toNat | none => 0
theorem leftOf_eq {s : ByteArray} {b : Nat} {w : World} {i t : Nat} {op : Bool} (h : CutB w b s i t op) : leftOf s b w = s.size - i := by
  unfold leftOf; rw [h.cut.2.1]; simp [intOf]

/-- How the iterator ends. -/
def IterEnd (s : ByteArray) (x0 : St) (I Ix : List Pc → St → World → Prop) (e : Ending) (W : World) : Prop :=
  (∃ pre x, e = .returned (.tuple #[]) ∧ I pre x W ∧ qFrom s.data.toList x0 = (pre, none) ∧ x.i = s.size) ∨
  (∃ pre x rest, e = .returned (.tuple #[]) ∧ Ix pre x W ∧ (qFrom s.data.toList x0).1 = pre ++ rest) ∨
  (∃ pre x er, e = refusal er x.i ∧ er ≠ 0 ∧ I pre x W ∧ qFrom s.data.toList x0 = (pre, some (er, x.i)))

set_option maxHeartbeats 4000000 in
theorem pieces_iter (s : ByteArray) (b : Nat) (hs : s.size ≤ 20000) (x0 : St) (l : Nat) (I Ix : List Pc → St → World → Prop)
    (hI1 : ∀ pre x W, I pre x W → CutB W b s x.i x.t x.op ∧ Env W)
    (hI2 : ∀ pre x x' W W', I pre x W → W.grownBy W' (some b) → CutB W' b s x'.i x'.t x'.op → I pre x' W')
    (hY : ∀ pre x p W, I pre x W → x.i ≤ s.size ∧ x.t ≤ 6000 → p.at_ + p.len = x.i → qFrom s.data.toList x0 = (pre ++ p :: (qFrom s.data.toList x).1, (qFrom s.data.toList x).2) →
      YieldAt Fence.wide 0 Tryz.prog l #[PcV p] W fun e W' => (e = .returned (.bool true) ∧ I (pre ++ [p]) x W') ∨ (e = .returned (.bool false) ∧ Ix (pre ++ [p]) x W'))
    (W : World) (h0 : I [] x0 W) (hx0 : x0.i ≤ s.size) (ht0 : x0.t ≤ 6000) :
    CallsIn Fence.wide 1 Tryz.prog 129 #[.pointer (some ⟨b, 0, none⟩), .func (.yield l) #[] #[]] W (IterEnd s x0 I Ix) := by
  refine callsIn_of_wp Tryz.func129 rfl trivial ?_ rfl
  simp only [Tryz.ntmps129, List.size_toArray, List.length_cons, List.length_nil, Nat.reduceAdd, Nat.reduceSub, Array.replicate_succ, Array.replicate_zero, List.push_toArray, List.append_toArray, List.nil_append, List.cons_append]
  gi_wp2
  gi_loopw [] (fun wr => ∃ pre x, Hid (I pre x wr) ∧ x.i ≤ s.size ∧ x.t ≤ 6000 ∧ Hid (qFrom s.data.toList x0 = (pre ++ (qFrom s.data.toList x).1, (qFrom s.data.toList x).2)))
    (fun wr => leftOf s b wr)
  case atStart => exact ⟨[], x0, Lib.hid h0, hx0, ht0, Lib.hid rfl⟩
  case round =>
    obtain ⟨pre, x, hI, hi, ht, hq⟩ := hrel
    obtain ⟨hc0, he0⟩ := hI1 pre x wr hI.out
    have HC := Lib.hid hc0
    have HE := Lib.hid he0
    clear hc0 he0
    have hst : Hid (∀ W', Below wr.heap.size wr W' → I pre x W') := Lib.hid (fun W' hb => hI2 pre x x wr W' hI.out (grown_bl hb _) (HC.out.below hb))
    by_cases hend : x.i = s.size
    · have HEND := Lib.hid hend
      gi_wp2_with fail
      refine ⟨trivial, (callsIn_wide.2 (done_any s b x.i _ HC.out.cut.1 HC.out.cut.2.1)).mono ?_⟩
      rintro e w' ⟨rfl, n, rfl⟩
      rw [show decide (x.i = s.size) = true by simpa using hend]
      gi_wp2_with fail
      go_end0
      exact .inl ⟨pre, x, rfl, hst.out _ (bl _ _), by rw [hq.out, qFrom_end _ _ (by simp; omega)]; simp, HEND.out⟩
    · have hlt : x.i < s.size := by omega
      gi_wp2_with fail
      refine ⟨trivial, (callsIn_wide.2 (done_any s b x.i _ HC.out.cut.1 HC.out.cut.2.1)).mono ?_⟩
      rintro e w' ⟨rfl, n, rfl⟩
      rw [show decide (x.i = s.size) = false by simpa using hend]
      clear hend
      have HCn := Lib.hid (HC.out.below (bl wr n))
      gi_wp2_with fail
      refine ⟨trivial, (callsIn_wide.2 (next_any s b x.i x.t x.op hlt hs _ HCn.out.cut (HE.out.below (bl wr n)))).mono ?_⟩
      rintro e w2 ⟨rfl, hb2⟩
      have hb2' := bt (bl wr n) hb2
      have HC2 := Lib.hid (HC.out.below hb2')
      by_cases her : (qNext s.data.toList x.i x.op).er = 0
      · have hln := qNext_len s.data.toList x.i x.op (by simpa using hlt) her
        unfold endPiece
        rw [if_pos her]
        obtain ⟨kd, hkd⟩ : ∃ kd, (qNext s.data.toList x.i x.op).kind = kd := ⟨_, rfl⟩
        obtain ⟨ln, hlnn⟩ : ∃ ln, (qNext s.data.toList x.i x.op).len = ln := ⟨_, rfl⟩
        have hmany := qFrom_many s.data.toList x (by simpa using hlt) her
        have hcons := qFrom_cons s.data.toList x (by simpa using hlt) her
        rw [hkd] at hln hmany hcons ⊢
        rw [hlnn] at hln hcons ⊢
        simp only [ByteArray.size_data, Array.length_toList] at hln
        have HM := Lib.hid hmany
        have HN := Lib.hid hcons
        clear hmany hcons hkd hlnn her
        by_cases hk7 : kd < 7
        · by_cases h6 : x.t = 6000
          · have HMq := Lib.hid (HM.out hk7 h6)
            rw [h6] at HC2
            gi_wp2_with fail
            refine ⟨trivial, (callsIn_wide.2 (take_bad s b x.i ln kd x.op hk7 _ (HC2.out.alloc _))).mono ?_⟩
            rintro e w3 ⟨rfl, hb3⟩
            unfold refusal
            gi_wp2_with fail
            exact ⟨rfl, .inr (.inr ⟨pre, x, 2, rfl, by decide, hst.out _ (bt hb2' (bt ((Below.refl _ _).alloc (Nat.le_refl _) _) hb3)), by rw [hq.out, HMq.out]; simp⟩)⟩
          · have hn' := HN.out (by omega)
            have XI : (qAfter s.data.toList x kd ln).i = x.i + ln := qAfter_i _ _ _ _
            have XT : (qAfter s.data.toList x kd ln).t ≤ 6000 := by unfold qAfter; rw [if_pos hk7]; show x.t + 1 ≤ 6000; omega
            have XE : Hid (qAfter s.data.toList x kd ln = ⟨x.i + ln, x.t + 1, qOper s.data.toList x.i kd⟩) := Lib.hid (if_pos hk7)
            gi_wp2_with fail
            refine ⟨trivial, (callsIn_wide.2 (take_ok s b x.i x.t ln kd x.op hlt (by omega) hs (by omega) hk7 _ (HC2.out.alloc _))).mono ?_⟩
            rintro e w3 ⟨rfl, hc3, hg⟩
            have hc3 : CutB w3 b s (qAfter s.data.toList x kd ln).i (qAfter s.data.toList x kd ln).t (qAfter s.data.toList x kd ln).op := by rw [XE.out]; exact hc3
            have hg3 := ((grown_bl hb2' (some b)).trans (World.grownBy_alloc w2 _ _)).trans hg
            have hp3 : Hid (w3.heap[w2.heap.size]? = some (.cells #[.int .i64 kd, .int .i64 x.i, .int .i64 ln] 127 (0, 0))) := Lib.hid ((hg.block w2.heap.size (by simp) (fun e => by have := HC2.out.lt; cases e; omega)).trans (World.alloc_heap_new w2 _))
            obtain ⟨p0, p1, p2, _, _, _⟩ := cells3 hp3.out
            have hI3 := Lib.hid (hI2 pre x _ wr w3 hI.out hg3 hc3)
            have hq3 := hq.out
            rw [hn'] at hq3
            obtain ⟨fn, tmps, assign, body, hy, hR⟩ := hY pre _ ⟨kd, x.i, ln⟩ w3 hI3.out ⟨by rw [XI]; omega, XT⟩ (XI).symm hq3
            have HQ3 := Lib.hid hq3
            clear hq3 hn' hc3 hg hg3
            dsimp only [PcV] at hy
            gi_wp2_with fail
            refine hR.mono ?_
            rintro e W5 (⟨rfl, hJ5⟩ | ⟨rfl, hJx5⟩)
            · have HC5 := Lib.hid (hI1 _ _ _ hJ5).1
              have HJ5 := Lib.hid hJ5
              clear hJ5
              gi_wp2_with fail
              go_roundw
              case rel => exact ⟨pre ++ [⟨kd, x.i, ln⟩], _, HJ5, by rw [XI]; omega, XT, Lib.hid (by rw [HQ3.out]; simp)⟩
              case measure => rw [leftOf_eq HC5.out, leftOf_eq HC.out]; have := XI; omega
            · gi_wp2_with fail
              refine bodyPost_ret (results_none rfl _ _ _) rfl ?_
              exact .inr (.inl ⟨_, _, (qFrom s.data.toList (qAfter s.data.toList x kd ln)).1, rfl, hJx5, by rw [HQ3.out]; simp⟩)
        · have hn' := HN.out (by omega)
          have XI : (qAfter s.data.toList x kd ln).i = x.i + ln := qAfter_i _ _ _ _
          have XT : (qAfter s.data.toList x kd ln).t ≤ 6000 := by unfold qAfter; rw [if_neg hk7]; exact ht
          have XE : Hid (qAfter s.data.toList x kd ln = ⟨x.i + ln, x.t, x.op⟩) := Lib.hid (if_neg hk7)
          gi_wp2_with fail
          refine ⟨trivial, (callsIn_wide.2 (take_skip s b x.i x.t ln kd x.op (by omega) hs (by omega) _ (HC2.out.alloc _))).mono ?_⟩
          rintro e w3 ⟨rfl, hc3, hg⟩
          have hc3 : CutB w3 b s (qAfter s.data.toList x kd ln).i (qAfter s.data.toList x kd ln).t (qAfter s.data.toList x kd ln).op := by rw [XE.out]; exact hc3
          have hg3 := ((grown_bl hb2' (some b)).trans (World.grownBy_alloc w2 _ _)).trans hg
          have hp3 : Hid (w3.heap[w2.heap.size]? = some (.cells #[.int .i64 kd, .int .i64 x.i, .int .i64 ln] 127 (0, 0))) := Lib.hid ((hg.block w2.heap.size (by simp) (fun e => by have := HC2.out.lt; cases e; omega)).trans (World.alloc_heap_new w2 _))
          obtain ⟨p0, p1, p2, _, _, _⟩ := cells3 hp3.out
          have hI3 := Lib.hid (hI2 pre x _ wr w3 hI.out hg3 hc3)
          have hq3 := hq.out
          rw [hn'] at hq3
          obtain ⟨fn, tmps, assign, body, hy, hR⟩ := hY pre _ ⟨kd, x.i, ln⟩ w3 hI3.out ⟨by rw [XI]; omega, XT⟩ (XI).symm hq3
          have HQ3 := Lib.hid hq3
          clear hq3 hn' hc3 hg hg3
          dsimp only [PcV] at hy
          gi_wp2_with fail
          refine hR.mono ?_
          rintro e W5 (⟨rfl, hJ5⟩ | ⟨rfl, hJx5⟩)
          · have HC5 := Lib.hid (hI1 _ _ _ hJ5).1
            have HJ5 := Lib.hid hJ5
            clear hJ5
            gi_wp2_with fail
            go_roundw
            case rel => exact ⟨pre ++ [⟨kd, x.i, ln⟩], _, HJ5, by rw [XI]; omega, XT, Lib.hid (by rw [HQ3.out]; simp)⟩
            case measure => rw [leftOf_eq HC5.out, leftOf_eq HC.out]; have := XI; omega
          · gi_wp2_with fail
            refine bodyPost_ret (results_none rfl _ _ _) rfl ?_
            exact .inr (.inl ⟨_, _, (qFrom s.data.toList (qAfter s.data.toList x kd ln)).1, rfl, hJx5, by rw [HQ3.out]; simp⟩)
      · have hend : endPiece (qNext s.data.toList x.i x.op) x.i = refusal (qNext s.data.toList x.i x.op).er x.i := if_neg her
        rw [hend]
        clear hend
        have HER := Lib.hid her
        clear her
        unfold refusal
        gi_wp2_with fail
        exact ⟨rfl, .inr (.inr ⟨pre, x, _, rfl, HER.out, hst.out _ hb2', by rw [hq.out, qFrom_err _ _ (by simpa using hlt) HER.out]; simp⟩)⟩
end Go.Proofs.YtopbmndjnjnmcaaGreatDoor
