/- Package fragment: take. -/
import Derived.Test.YtopbmndjnjnmcaaGreatDoorF12
namespace Go.Proofs.YtopbmndjnjnmcaaGreatDoor
open Go.RowKit Lx Go.Sort Go.Maps

attribute [local go_sem] Oper.semAt_some
attribute [local go_sem ↓] Go.wp_at_zero Go.wp_at_succ

theorem tok_new5 {W : World} {N : Nat} {t : Tok} (kn : W.heap[N]? = some (.cells #[.int .i64 t.kind, .int .i64 t.num, .string t.text, .int .i64 t.at_, .int .i64 t.mark] 50 (0, 0))) :
    W.cell? ⟨N, 0, none⟩ = some (.int .i64 t.kind) ∧ W.cell? ⟨N, 1, none⟩ = some (.int .i64 t.num) ∧ W.cell? ⟨N, 2, none⟩ = some (.string t.text) ∧ W.cell? ⟨N, 3, none⟩ = some (.int .i64 t.at_) ∧ W.cell? ⟨N, 4, none⟩ = some (.int .i64 t.mark) := tok_cells kn
theorem info97g : (Tryz.prog.info? 97).map (fun i => (i.zero, i.size, i.bytes)) = some (some (.agg #[.int .i64 0, .int .i64 0, .string ⟨#[]⟩, .int .i64 0, .int .i64 0, .string ⟨#[]⟩, .slice none 0 0, .int .i64 0]), 8, 96) := by kernel_rfl
theorem closing_names : ([bs1 41, bs1 93, bs1 125, tEnd].map Value.string).toArray = #[.string ⟨#[41]⟩, .string ⟨#[93]⟩, .string ⟨#[125]⟩, .string ⟨#[101, 110, 100]⟩] := rfl

set_option maxRecDepth 100000 in
set_option maxHeartbeats 4000000 in
/-- **take** -/
theorem take_any (ts : List Tok) (ws : List ByteArray) {B r mb i : Nat} {vt gv : Value} {f : Gp} {rest : List Gp} {t : Tok} {w : World} (h : RdI B r mb vt i gv (f :: rest) w) (ht : ts[i]? = some t) (hr : TokLow B vt ts w) (hcl : Clos w mb r (clo ws)) (he : Env w) (h6 : 6 ≤ B) (hz : ∀ t ∈ ts, t.text.size ≤ maxLen)
    (hk : ∀ g ∈ f :: rest, g.kids.length ≤ 6000) (hl : rest.length ≤ 100) (hts : ts.length ≤ 6000) (hop : f.op.size ≤ maxLen) (hb0 : rest = [] → clo ws f.op.toList = none) :
    Calls Tryz.prog 73 #[.pointer (some ⟨r, 0, none⟩)] w fun e W => TakePost (pTake ts ws ⟨i, f.pure, rest.map Gp.pure⟩) B r mb vt w e W := by
  obtain ⟨res, hres⟩ : ∃ res, pTake ts ws ⟨i, f.pure, rest.map Gp.pure⟩ = res := ⟨_, rfl⟩
  rw [hres]
  unfold pTake at hres
  simp only [ht] at hres
  have HRES := Lib.hid hres
  obtain ⟨g, o, c, hvt, hc, hn, hg, k0, k1, k2, k3, k4⟩ := tok_read (hr _ (Below.refl _ _)) ht
  obtain ⟨r0, r1, r2, r3⟩ := rd_cells h.rd
  rw [hvt] at r0
  have hi := (List.getElem?_eq_some_iff.1 ht).1
  have hbB : B ≤ w.heap.size := by have := h.base.2; omega
  have HW := Lib.hid h
  have HT := Lib.hid hr
  have HE := Lib.hid he
  have HZ := Lib.hid hz
  have HKD := Lib.hid hk
  have HCL := Lib.hid hcl
  have HTT := Lib.hid ht
  have HVT := Lib.hid hvt
  have HB0 := Lib.hid hb0
  unfold maxLen at hn
  clear h hr he hz hk hcl hres ht hb0 hvt
  obtain ⟨ic, hic⟩ : ∃ ic, isCl t = ic := ⟨_, rfl⟩
  have HIC := Lib.hid hic
  clear hic
  go_enter Tryz.func73, Tryz.ntmps73
  go_wp2_with fail
  go_region_held3 (fun w' => w'.cell? ⟨r, 0, none⟩ = some (.slice (some ⟨g, o, none⟩) ts.length c) ∧ w'.cell? ⟨r, 1, none⟩ = some (.int .i64 i) ∧ w'.cell? ⟨g, o + i * 5, none⟩ = some (.int .i64 t.kind) ∧ w'.cell? ⟨g, o + i * 5 + 1, none⟩ = some (.int .i64 t.num) ∧ w'.cell? ⟨g, o + i * 5 + 2, none⟩ = some (.string t.text) ∧ w'.cell? ⟨g, o + i * 5 + 3, none⟩ = some (.int .i64 t.at_) ∧ w'.cell? ⟨g, o + i * 5 + 4, none⟩ = some (.int .i64 t.mark)) (first | go_keep) (fail)
  go_upto_region 2 with fail
  obtain ⟨W1, hW1⟩ : ∃ W1, (w.alloc (.cells #[.int .i64 t.kind, .int .i64 t.num, .string t.text, .int .i64 t.at_, .int .i64 t.mark] 50)).drew = W1 := ⟨_, rfl⟩
  have kn : W1.heap[w.heap.size]? = some (.cells #[.int .i64 t.kind, .int .i64 t.num, .string t.text, .int .i64 t.at_, .int .i64 t.mark] 50 (0, 0)) := by rw [← hW1]; exact heap_alloc_new w _
  have hb1 : Below w.heap.size w W1 := by rw [← hW1]; exact ((Below.refl _ _).alloc (Nat.le_refl _) _).drew
  rw [hW1]
  have hs1 := strs_new W1 [bs1 41, bs1 93, bs1 125, tEnd] (by simp)
  have hb2 := hb1.alloc hb1.size (.cells ([bs1 41, bs1 93, bs1 125, tEnd].map Value.string).toArray 9)
  have kn2 := (((Below.refl W1.heap.size W1).alloc (Nat.le_refl _) (.cells ([bs1 41, bs1 93, bs1 125, tEnd].map Value.string).toArray 9)).block w.heap.size (Array.getElem?_eq_some_iff.1 kn).1).trans kn
  obtain ⟨_, _, t2, _, _⟩ := tok_new5 kn
  have HS1 := Lib.hid hs1
  have HB2 := Lib.hid hb2
  have HN2 := Lib.hid kn2
  clear hW1 kn hb1 hs1 hb2 kn2 k0 k1 k2 k3 k4 r0 r1 r2 r3
  go_wp2_with fail
  go_at_call 91
  refine (among_any _ [bs1 41, bs1 93, bs1 125, tEnd] t.text (by simp) _ HS1.out).mono ?_
  rintro e W2 ⟨rfl, hW2⟩
  rw [show Lib.containsS [bs1 41, bs1 93, bs1 125, tEnd] t.text = ic from HIC.out]
  rw [← hW2] at HB2 HN2
  have K2 : Hid (RdK B r mb vt i gv (f :: rest) w W2) := Lib.hid ⟨HW.out.bl HB2.out, HB2.out.mono hbB, HB2.out.block mb HW.out.base.2.2⟩
  have hcl2 := HCL.out.keep K2.out.map
  clear hW2 HS1 t2
  obtain ⟨t0, t1, t2, t3, t4⟩ := tok_new5 HN2.out
  obtain ⟨r0, r1, r2, r3⟩ := rd_cells K2.out.rd.rd
  obtain ⟨gb, cap, hgv, hc1, hc2, hB, hgbl, hcell⟩ := K2.out.rd.head
  have g5 := hcell 5 _ rfl
  have g7 := hcell 7 _ rfl
  have HG := Lib.hid hgv
  have lmb : mb < W2.heap.size := K2.out.rd.base.2.2
  clear hcell
  cases ic
  · have hrs := HRES.out
    rw [HIC.out, if_neg (by simp)] at hrs
    have HRS := Lib.hid hrs
    have hopn := opens_any ts ws ⟨i, f.pure, rest.map Gp.pure⟩ t vt gv r mb gb cap rest.length hts (by show i ≤ 6000; omega) (HZ.out t (List.mem_of_getElem? HTT.out)) W2 K2.out.rd.rd hgv hc1 hc2 g5 g7 hcl2 lmb (HT.out _ K2.out.bel)
    unfold TokV tokC at hopn
    obtain ⟨po, hpo⟩ : ∃ po, pOpens ts ws ⟨i, f.pure, rest.map Gp.pure⟩ t = po := ⟨_, rfl⟩
    rw [hpo] at hopn
    have HPO := Lib.hid hpo
    have HOP := Lib.hid hopn
    clear hopn hpo hrs hcl2 g5 g7
    rw [hgv] at r2
    go_wp2_with fail
    go_at_call 104
    refine HOP.out.mono ?_
    rintro e W3 ⟨rfl, hb3⟩
    have K3 := Lib.hid (K2.out.bl hb3)
    have hn3 := (hb3.block w.heap.size (Array.getElem?_eq_some_iff.1 HN2.out).1).trans HN2.out
    have HN3 := Lib.hid hn3
    clear t0 t1 t2 t3 t4 r0 r1 r2 r3 hb3 hn3 HN2
    obtain ⟨t0, t1, t2, t3, t4⟩ := tok_new5 HN3.out
    obtain ⟨r0, r1, r2, r3⟩ := rd_cells K3.out.rd.rd
    rw [HG.out] at r2
    cases po
    · have hres2 := HRS.out
      rw [HPO.out, if_neg (by simp)] at hres2
      subst hres2
      go_wp2_with fail
      go_at_call 100
      refine (add_any K3.out.rd (.mk t ⟨#[]⟩ []) (.slice none 0 0) (FrRead.nil _ _ _ _) (HKD.out f (List.mem_cons_self))).mono ?_
      rintro e W4 ⟨rfl, hadd⟩
      go_wp2_with fail
      go_end0
      obtain ⟨⟨g1, cap1, h1⟩, h2, h3, h4⟩ := hadd
      exact ⟨rfl, gv, _, ⟨h1, K3.out.bel.trans h2, h3.trans K3.out.map⟩, rfl⟩
    · have hres2 := HRS.out
      rw [HPO.out, if_pos rfl] at hres2
      simp only [List.length_map] at hres2
      by_cases h100 : 100 < rest.length + 1
      · rw [if_pos h100] at hres2
        subst hres2
        have d1 : decide (((rest.length + 1 : Nat) : Int) > 100) = true := by simp; omega
        go_wp2_with fail
        go_at_call 69
        refine (refuse68_any r 6 i _ r1).mono ?_
        rintro e w' ⟨rfl, rfl⟩
        unfold refuse68
        go_wp2_with fail
        exact ⟨rfl, rfl, K3.out.bel⟩
      · rw [if_neg h100] at hres2
        subst hres2
        have d1 : decide (((rest.length + 1 : Nat) : Int) > 100) = false := by simp; omega
        obtain ⟨i0, hi0, hz0, hz1, hz2⟩ := info_parts info97g
        have hgr3 := K3.out.rd.gs
        rw [HG.out] at hgr3
        obtain ⟨dd1, dd2, _⟩ := K3.out.rd.diff
        rw [HG.out] at dd2
        have hrg : (Value.slice (some ⟨gb, 0, none⟩) (rest.length + 1) cap).ownBlock ≠ some r := fun e => (dd2 r e).1 rfl
        have lr3 : r < W3.heap.size := (Array.getElem?_eq_some_iff.1 K3.out.rd.rd).1
        have hB3 : B ≤ W3.heap.size := by have := K3.out.rd.base.2; omega
        have HGR := Lib.hid hgr3
        have HD1 := Lib.hid dd1
        have HD2 := Lib.hid dd2
        have HPR := Lib.hid K3.out.rd.rd
        clear hgr3 dd1 dd2
        go_wp2_with fail
        go_region_law (first
          | (refine step_append_lies _ (by rfl) _ _ _ (by rfl) B 97 i0 _ 8 96 Tryz.underlying98 hi0 hz0 hz1 hz2 rfl (by omega) (.slice (some ⟨gb, 0, none⟩) (rest.length + 1) cap) (rest.length + 1) (gpsC (f :: rest)) (by rfl) ((HGR.out.alloc _).drew) ⟨W3.heap.size, 0, none⟩ 1 1 (gpC ⟨t, t.text, [], i, .slice none 0 0⟩) (by rfl) (by rfl) (World.news_of_block (cs := (gpC ⟨t, t.text, [], i, .slice none 0 0⟩).toArray) (t := 97) (fr := (0, 0)) (heap_alloc_new W3 _)) (by simp [gpC, frC, Value.oneCell']) (by omega) (by unfold maxLen; omega) (by omega) (by show B ≤ (W3.alloc _).heap.size; rw [World.size_alloc]; exact Nat.le_succ_of_le hB3) (W3.heap.size + 1) (World.size_alloc _ _) ?_; intro g1 cap1 w10 hown1 hgrow hat hgl; have hrd10 := (hgrow.block r (by show r < (W3.alloc _).heap.size; rw [World.size_alloc]; omega) (Ne.symm hrg)).trans ((((Below.refl W3.heap.size W3).alloc (Nat.le_refl _) _).drew.block r lr3).trans HPR.out); have y2 := (rd_cells hrd10).2.2.1; have fz2 := rd_frozen hrd10 2; clear hrd10))
        all_goals
          go_end0
          have hsz10 := hgrow.size
          have hszd : (W3.alloc (.cells (gpC ⟨t, t.text, [], i, .slice none 0 0⟩).toArray 97)).drew.heap.size = W3.heap.size + 1 := World.size_alloc _ _
          rw [show (W3.alloc (.cells #[.int .i64 t.kind, .int .i64 t.num, .string t.text, .int .i64 t.at_, .int .i64 t.mark, .string t.text, .slice none 0 0, .int .i64 i] 97)).drew.heap.size = W3.heap.size + 1 from hszd] at hsz10
          have h10 : ∀ b, b < W3.heap.size → (Value.slice (some ⟨gb, 0, none⟩) (rest.length + 1) cap).ownBlock ≠ some b → w10.heap[b]? = W3.heap[b]? := fun b hlt hne =>
            (hgrow.block b (by rw [show (W3.alloc (.cells #[.int .i64 t.kind, .int .i64 t.num, .string t.text, .int .i64 t.at_, .int .i64 t.mark, .string t.text, .slice none 0 0, .int .i64 i] 97)).drew.heap.size = W3.heap.size + 1 from hszd]; omega) (Ne.symm hne)).trans (((Below.refl W3.heap.size W3).alloc (Nat.le_refl _) _).drew.block b hlt)
          have hp := RdI.push (g := ⟨t, t.text, [], i, .slice none 0 0⟩) rfl rfl (HG.out ▸ K3.out.rd) hown1 (by omega) h10 (hat.imp id fun e => by omega)
          refine ⟨rfl, _, _, ⟨hp, ?_, ?_⟩, rfl⟩
          · refine ((K3.out.bel.trans (((Below.refl W3.heap.size W3).alloc (Nat.le_refl _) _).drew.mono hB3)).grown hgrow (by show B ≤ (W3.alloc _).heap.size; rw [World.size_alloc]; omega) (fun j e => ?_)).setCell HW.out.base.1 _
            exact (owned_cells HGR.out e).1
          · exact (set_ne _ _ _ _ (Ne.symm HD1.out)).trans ((h10 mb K3.out.rd.base.2.2 (fun e => (HD2.out mb e).2 rfl)).trans K3.out.map)
  · have hlook := fun n => hcl2.look f.op hop (W' := W2.drewN n) rfl
    obtain ⟨cv, hcv⟩ : ∃ cv, clo ws f.op.toList = cv := ⟨_, rfl⟩
    simp only [hcv] at hlook
    have HCV := Lib.hid hcv
    have HC2 := Lib.hid hcl2
    clear hcv hcl2
    rw [hgv] at r2
    have cI : ∀ n, Calls Tryz.prog 74 #[.pointer (some ⟨r, 0, none⟩)] (W2.drewN n) fun e w'' => e = .returned (.pointer (some ⟨gb, rest.length * 8, none⟩)) ∧ ∃ m, w'' = W2.drewN m := fun n => Calls.quiet_of (inner_any r gb rest.length cap hc1 hc2 _ r2)
    cases cv with
    | none =>
      unfold closerV at hlook
      go_wp2_with fail
      go_quiet ((go_at_call 74; exact cI _))
      go_wp2_with fail
      go_at_call 69
      refine (refuse68_any r 20 i (W2.drewN nq) r1).mono ?_
      rintro e w' ⟨rfl, rfl⟩
      have hrs := HRES.out
      rw [HIC.out, if_pos rfl, show f.pure.op = f.op from rfl, HCV.out] at hrs
      subst hrs
      unfold refuse68
      go_wp2_with fail
      exact ⟨rfl, rfl, below_drewN K2.out.bel _⟩
    | some bv =>
      obtain ⟨f2, rest, rfl⟩ : ∃ f2 rest', rest = f2 :: rest' := by
        cases rest with
        | nil => have h1 := HB0.out rfl; rw [HCV.out] at h1; cases h1
        | cons a b => exact ⟨a, b, rfl⟩
      have hk2 : f2.kids.length ≤ 6000 := HKD.out f2 (List.mem_cons_of_mem _ (List.mem_cons_self))
      have hl2 : rest.length ≤ 1000 := by simp only [List.length_cons] at hl; omega
      simp only [List.length_cons] at g5 g7 cI r2 hc1 hl
      cases bv with
      | false =>
        unfold closerV endV at hlook
        go_wp2_with fail
        go_quiet ((go_at_call 74; exact cI _))
        go_wp2_with fail
        go_at_call 70
        have Kq := K2.out.bl (below_drewN (Below.refl _ _) nq)
        refine (end_any ts Kq.rd HTT.out (HT.out _ Kq.bel) hk2 hl2).mono ?_
        rintro e W3 hend
        have hrs := HRES.out
        rw [HIC.out, if_pos rfl, show f.pure.op = f.op from rfl, HCV.out] at hrs
        simp only [List.map_cons] at hrs
        rw [pEnd_eq HTT.out] at hrs
        unfold EndPost at hend
        rw [show closeTok f.pure.tok f.pure.op = closeTok f.tok f.op from rfl] at hrs
        obtain ⟨q, hq⟩ : ∃ q, ((closeTok f.tok f.op).text.toList != t.text.toList) = q := ⟨_, rfl⟩
        rw [hq] at hend hrs
        clear hq
        cases q
        · simp only [Bool.false_eq_true, if_false] at hend hrs
          obtain ⟨rfl, ⟨gv', kv', hrd⟩, hb3, hmb, _, _⟩ := hend
          subst hrs
          go_wp2_with fail
          go_end0
          exact ⟨rfl, gv', _, ⟨hrd, Kq.bel.trans hb3, hmb.trans Kq.map⟩, rfl⟩
        · simp only [if_true] at hend hrs
          obtain ⟨rfl, hb3⟩ := hend
          subst hrs
          unfold refuse68
          go_wp2_with fail
          exact ⟨rfl, rfl, Kq.bel.trans hb3⟩
      | true =>
        unfold closerV namedV at hlook
        go_wp2_with fail
        go_quiet ((go_at_call 74; exact cI _))
        go_wp2_with fail
        go_at_call 71
        have Kq := K2.out.bl (below_drewN (Below.refl _ _) nq)
        refine (endNamed_any ts Kq.rd HTT.out (HT.out.trans Kq.bel) (HE.out.low (Kq.bel.mono h6)) h6 HZ.out hk2 hl2 hts).mono ?_
        rintro e W3 hend
        have hrs := HRES.out
        rw [HIC.out, if_pos rfl, show f.pure.op = f.op from rfl, HCV.out] at hrs
        simp only [List.map_cons] at hrs
        rw [hrs] at hend
        cases res with
        | ok s' =>
          obtain ⟨rfl, gv', fs', hkz, hmap⟩ := hend
          go_wp2_with fail
          go_end0
          exact ⟨rfl, gv', fs', ⟨hkz.rd, Kq.bel.trans hkz.bel, hkz.map.trans Kq.map⟩, hmap⟩
        | bad er j =>
          obtain ⟨rfl, hbz⟩ := hend
          unfold refuse68
          go_wp2_with fail
          exact ⟨rfl, rfl, Kq.bel.trans hbz⟩
end Go.Proofs.YtopbmndjnjnmcaaGreatDoor
