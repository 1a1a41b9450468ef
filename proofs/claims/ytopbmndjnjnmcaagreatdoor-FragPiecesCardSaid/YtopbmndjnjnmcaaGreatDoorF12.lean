/- Package fragment: endNamed. -/
import Derived.Test.YtopbmndjnjnmcaaGreatDoorMB
namespace Go.Proofs.YtopbmndjnjnmcaaGreatDoor
open Go.RowKit Lx Go.Sort

attribute [local go_sem] Oper.semAt_some

/-- How a step of a reader ends. -/
def TakePost (res : Rs) (B r mb : Nat) (vt : Value) (w : World) (e : Ending) (W : World) : Prop :=
  match res with
  | .ok s' => e = .returned (.tuple #[]) ∧ ∃ gv' fs', RdK B r mb vt s'.at_ gv' fs' w W ∧ fs'.map Gp.pure = s'.g :: s'.stk
  | .bad er j => e = refuse68 er j ∧ Below B w W

theorem nextAre_lt {ts : List Tok} : ∀ {names : List ByteArray} {i : Nat}, nextAre ts i names = true → i < ts.length → i + names.length < ts.length
  | [], i, _, h => h
  | nm :: r, i, h, _ => by
    simp only [nextAre, Bool.and_eq_true] at h
    have h1 : i + 1 < ts.length := by
      rcases Nat.lt_or_ge (i + 1) ts.length with h2 | h2
      · exact h2
      · rw [List.getElem?_eq_none h2] at h; simp at h
    have := nextAre_lt h.2 h1
    simp only [List.length_cons]; omega

theorem pEnd_eq {ts : List Tok} {i : Nat} {g g2 : Grp} {rest : List Grp} {t : Tok} (ht : ts[i]? = some t) :
    pEnd ts ⟨i, g, g2 :: rest⟩ = if ((closeTok g.tok g.op).text.toList != t.text.toList) = true then .bad 20 i else .ok ⟨i, addF g2 (.mk g.tok g.op g.kids), rest⟩ := by
  unfold pEnd
  simp only
  rw [ht]

def repP (ts : List Tok) (i : Nat) (names : List ByteArray) : Bool := nextAre ts i names && stopsAt ts (i + 1 + names.length)
theorem pNamed_eq {ts : List Tok} {i : Nat} {g g2 : Grp} {rest : List Grp} {t : Tok} (ht : ts[i]? = some t) :
    pNamed ts ⟨i, g, g2 :: rest⟩ = if ((closeTok g.tok g.op).text.toList != t.text.toList) = true then .bad 20 i else
      match (repeats g.op g.kids).find? (repP ts i) with
      | some names => pDrop ts names.length ⟨i, addF g2 (.mk g.tok g.op g.kids), rest⟩
      | none => .ok ⟨i, addF g2 (.mk g.tok g.op g.kids), rest⟩ := by
  unfold pNamed
  rw [pEnd_eq ht]
  split
  · rename_i h; split at h <;> simp_all
  · rename_i s1 h
    split at h
    · cases h
    · rename_i hc
      cases h
      rw [if_neg hc]
      rfl

theorem info23 : (Tryz.prog.info? 23).map (fun i => (i.zero, i.size, i.bytes)) = some (some (.slice none 0 0), 1, 24) := by kernel_rfl
/-- A slice of slices of strings. -/
def Reps (W : World) (R : Nat) (L : List (List ByteArray)) : Prop := R < W.heap.size ∧ ∀ (k : Nat) names, L[k]? = some names → ∃ a c, W.cell? ⟨R, k, none⟩ = some (.slice a names.length c) ∧ StrRead W (.slice a names.length c) names
theorem Reps.bl {W W' : World} {R : Nat} {L : List (List ByteArray)} (h : Reps W R L) (hb : Below W.heap.size W W') : Reps W' R L :=
  ⟨Nat.lt_of_lt_of_le h.1 hb.size, fun k names hk => by
    obtain ⟨a, c, h1, h2⟩ := h.2 k names hk
    exact ⟨a, c, (hb.cell (p := ⟨R, k, none⟩) h.1).trans h1, h2.bl hb⟩⟩
theorem StrRead.kept {W W' : World} {row : Option Nat} {v : Value} {ws : List ByteArray} (h : StrRead W v ws) (hg : W.grownBy W' row) (hne : ∀ g o n c, v = .slice (some ⟨g, o, none⟩) n c → some g ≠ row) : StrRead W' v ws := by
  obtain ⟨a, c, hv, hm, h⟩ := h
  refine ⟨a, c, hv, hm, fun k t hk => ?_⟩
  obtain ⟨g, o, ha, hg', h0⟩ := h k t hk
  exact ⟨g, o, ha, Nat.lt_of_lt_of_le hg' hg.size, (hg.cell_far ⟨g, o + k, none⟩ hg' (hne g o _ c (by rw [hv, ha]))).trans h0⟩
theorem reps_one (W : World) (x : ByteArray) : Reps ((W.alloc (.cells #[.string x] 9)).alloc (.cells #[.slice (some ⟨W.heap.size, 0, none⟩) 1 1] 23)) (W.heap.size + 1) [[x]] := by
  have hs := strs_new W [x] (by simp)
  have hb := (Below.refl (W.alloc (.cells #[.string x] 9)).heap.size (W.alloc (.cells #[.string x] 9))).alloc (Nat.le_refl _) (.cells #[.slice (some ⟨W.heap.size, 0, none⟩) 1 1] 23)
  refine ⟨by rw [World.size_alloc, World.size_alloc]; omega, fun k names hk => ?_⟩
  match k, hk with
  | 0, hk =>
    cases hk
    refine ⟨_, _, ?_, hs.bl hb⟩
    have := heap_alloc_new (W.alloc (.cells #[.string x] 9)) (.cells #[.slice (some ⟨W.heap.size, 0, none⟩) 1 1] 23)
    rw [World.size_alloc] at this
    rw [cell_of_row _ _ _ _ _ _ this]
    rfl
  | k + 1, hk => simp at hk

set_option maxRecDepth 100000 in
set_option maxHeartbeats 4000000 in
/-- **endNamed** -/
theorem endNamed_any (ts : List Tok) {B r mb i : Nat} {vt gv : Value} {f f2 : Gp} {rest : List Gp} {t : Tok} {w : World} (h : RdI B r mb vt i gv (f :: f2 :: rest) w) (ht : ts[i]? = some t) (hr : TokLow B vt ts w) (he : Env w) (h6 : 6 ≤ B) (hz : ∀ t ∈ ts, t.text.size ≤ maxLen)
    (hk : f2.kids.length ≤ 6000) (hl : rest.length ≤ 1000) (hts : ts.length ≤ 6000) :
    Calls Tryz.prog 71 #[.pointer (some ⟨r, 0, none⟩)] w fun e W => TakePost (pNamed ts ⟨i, f.pure, f2.pure :: rest.map Gp.pure⟩) B r mb vt w e W := by
  rw [pNamed_eq ht]
  obtain ⟨gb, cap, rfl, hc1, hc2, hB, hgbl, hcell⟩ := h.head
  obtain ⟨xs, hown, _⟩ := h.kids f (List.mem_cons_self)
  obtain ⟨ka, kc, hkv⟩ : ∃ a c, f.kv = .slice a f.kids.length c := by
    rcases hown.2 with ⟨h, h0⟩ | ⟨g, cap, cur, h, _⟩
    · exact ⟨_, _, by rw [h, h0]⟩
    · exact ⟨_, _, h⟩
  have c0 := hcell 0 _ rfl
  have c1 := hcell 1 _ rfl
  have c2 := hcell 2 _ rfl
  have c3 := hcell 3 _ rfl
  have c4 := hcell 4 _ rfl
  have c5 := hcell 5 _ rfl
  have c6 := hcell 6 _ rfl
  obtain ⟨_, _, r2, _⟩ := rd_cells h.rd
  have hlive : ∀ b, Live r mb (.slice (some ⟨gb, 0, none⟩) (rest.length + 1 + 1) cap) (f :: f2 :: rest) b → b < w.heap.size := fun b hl => by
    rcases hl with rfl | rfl | h1 | ⟨f', h1, h2⟩
    · exact (Array.getElem?_eq_some_iff.1 h.rd).1
    · exact h.base.2.2
    · obtain ⟨_, cs, hcs⟩ := owned_cells h.gs h1
      exact (Array.getElem?_eq_some_iff.1 hcs).1
    · obtain ⟨xs', q1, _⟩ := h.kids f' h1
      obtain ⟨_, cs, hcs⟩ := owned_cells q1 h2
      exact (Array.getElem?_eq_some_iff.1 hcs).1
  have HW := Lib.hid h
  have HT := Lib.hid hr
  have HE := Lib.hid he
  have HZ := Lib.hid hz
  have HKV := Lib.hid hkv
  have HL := Lib.hid hlive
  rw [hkv] at c6
  simp only [List.length_cons, Nat.add_zero] at *
  clear hcell h hr hown hkv he hz hlive
  obtain ⟨q, hq⟩ : ∃ q, ((closeTok f.tok f.op).text.toList != t.text.toList) = q := ⟨_, rfl⟩
  have hq' : ((closeTok f.pure.tok f.pure.op).text.toList != t.text.toList) = q := hq
  rw [hq']
  obtain ⟨res, hres⟩ : ∃ res, (match (repeats f.op f.kids).find? (repP ts i) with
      | some names => pDrop ts names.length ⟨i, addF f2.pure (.mk f.tok f.op f.kids), rest.map Gp.pure⟩
      | none => .ok ⟨i, addF f2.pure (.mk f.tok f.op f.kids), rest.map Gp.pure⟩) = res := ⟨_, rfl⟩
  have hres' : (match (repeats f.pure.op f.pure.kids).find? (repP ts i) with
      | some names => pDrop ts names.length ⟨i, addF f2.pure (.mk f.pure.tok f.pure.op f.pure.kids), rest.map Gp.pure⟩
      | none => .ok ⟨i, addF f2.pure (.mk f.pure.tok f.pure.op f.pure.kids), rest.map Gp.pure⟩) = res := hres
  rw [hres']
  have HRES := Lib.hid hres
  clear hres hres'
  have HQ := Lib.hid hq
  clear hq hq'
  have hi := (List.getElem?_eq_some_iff.1 ht).1
  have HTT := Lib.hid ht
  go_enter Tryz.func71, Tryz.ntmps71
  go_wp2_with fail
  go_at_call 74
  refine (inner_any r gb (rest.length + 1) cap hc1 hc2 _ r2).mono ?_
  rintro e w9 ⟨rfl, k, hw9⟩
  have heq : ∀ a, w9.cell? a = w.cell? a := fun a => by rw [hw9]; rfl
  have d0 := (heq _).trans c0
  have d1 := (heq _).trans c1
  have d2 := (heq _).trans c2
  have d3 := (heq _).trans c3
  have d4 := (heq _).trans c4
  have d5 := (heq _).trans c5
  have d6 := (heq _).trans c6
  have hb9 : Below w.heap.size w w9 := by rw [hw9]; exact below_drewN (Below.refl _ _) k
  have HB9 := Lib.hid hb9
  have hsz9 : w9.heap.size = w.heap.size := by rw [hw9]; rfl
  have HSZ9 := Lib.hid hsz9
  clear hb9 hw9 r2 heq c0 c1 c2 c3 c4 c5 c6 hsz9 ht
  go_wp2_with fail
  obtain ⟨W1, hW1⟩ : ∃ W1, w9.alloc (.cells #[.int .i64 f.tok.kind, .int .i64 f.tok.num, .string f.tok.text, .int .i64 f.tok.at_, .int .i64 f.tok.mark, .string f.op, .slice ka f.kids.length kc] 52) = W1 := ⟨_, rfl⟩
  have kn : W1.heap[w9.heap.size]? = some (.cells #[.int .i64 f.tok.kind, .int .i64 f.tok.num, .string f.tok.text, .int .i64 f.tok.at_, .int .i64 f.tok.mark, .string f.op, .slice ka f.kids.length kc] 52 (0, 0)) := by rw [← hW1]; exact heap_alloc_new w9 _
  have hb1 : Below w.heap.size w W1 := by rw [← hW1]; exact HB9.out.alloc HB9.out.size _
  rw [hW1]
  have HN := Lib.hid kn
  have HB1 := Lib.hid hb1
  have hBw : B ≤ w.heap.size := by have := HW.out.base.2; omega
  clear kn hb1 hW1 d0 d1 d2 d3 d4 d5 d6
  go_at_call 70
  refine (end_any ts (HW.out.bl HB1.out) HTT.out (HT.out _ (HB1.out.mono hBw)) hk hl).mono ?_
  rintro e W3 hend
  unfold EndPost at hend
  rw [HQ.out] at hend
  cases q
  · simp only [Bool.false_eq_true, if_false] at hend
    obtain ⟨rfl, ⟨gv', kv', hrd⟩, hb3, hmb, hfr, hkeep⟩ := hend
    have k3 : W3.heap[w9.heap.size]? = some (.cells #[.int .i64 f.tok.kind, .int .i64 f.tok.num, .string f.tok.text, .int .i64 f.tok.at_, .int .i64 f.tok.mark, .string f.op, .slice ka f.kids.length kc] 52 (0, 0)) :=
      (hkeep _ (fun hl => by have := HL.out _ hl; have := HSZ9.out; omega) (Array.getElem?_eq_some_iff.1 HN.out).1).trans HN.out
    have K3 : Hid (RdK B r mb vt i gv' ({ f2 with kids := f2.kids ++ [.mk f.tok f.op f.kids], kv := kv' } :: rest) w W3) := Lib.hid ⟨hrd, (HB1.out.mono hBw).trans hb3, hmb.trans (HB1.out.block mb HW.out.base.2.2)⟩
    have HF := Lib.hid hfr
    have n5 : W3.cell? ⟨w9.heap.size, 5, none⟩ = some (.string f.op) := by rw [cell_of_row _ _ _ _ _ _ k3]; rfl
    have n6 : W3.cell? ⟨w9.heap.size, 6, none⟩ = some (.slice ka f.kids.length kc) := by rw [cell_of_row _ _ _ _ _ _ k3]; rfl
    have ln3 : w9.heap.size < W3.heap.size := (Array.getElem?_eq_some_iff.1 k3).1
    clear hrd hb3 hmb hfr hkeep k3
    by_cases hk0 : f.kids.length = 0
    · have hrep : repeats f.op f.kids = [[f.op]] := by rw [List.eq_nil_of_length_eq_zero hk0]; rfl
      have hd : decide ((f.kids.length : Int) > 0) = false := by rw [hk0]; rfl
      have hd3 : decide (0 < f.kids.length) = false := by rw [hk0]; rfl
      have HR := Lib.hid hrep
      clear hrep hk0
      go_wp2_with fail
      have HRA := Lib.hid (reps_one W3 f.op)
      have HKA := Lib.hid ((K3.out.bl ((Below.refl W3.heap.size W3).alloc (Nat.le_refl _) (.cells #[.string f.op] 9))).bl ((Below.refl _ _).alloc (Nat.le_refl _) (.cells #[.slice (some ⟨W3.heap.size, 0, none⟩) 1 1] 23)))
      obtain ⟨WA, hWA⟩ : ∃ WA, (W3.alloc (.cells #[.string f.op] 9)).alloc (.cells #[.slice (some ⟨W3.heap.size, 0, none⟩) 1 1] 23) = WA := ⟨_, rfl⟩
      rw [hWA] at HRA HKA ⊢
      clear hWA
      go_loopw [56] (fun y wr => ∃ k : Nat, k ≤ 1 ∧ y = .int .i64 k ∧ Hid (([[f.op]] : List (List ByteArray)).find? (repP ts i) = (([[f.op]] : List (List ByteArray)).drop k).find? (repP ts i)) ∧ Hid (RdK B r mb vt i gv' ({ f2 with kids := f2.kids ++ [.mk f.tok f.op f.kids], kv := kv' } :: rest) w wr) ∧ Hid (Reps wr (W3.heap.size + 1) [[f.op]])) (fun y _ => 1 - (intOf y).toNat)
      case atStart => exact ⟨0, by omega, rfl, Lib.hid rfl, HKA, HRA⟩
      case round =>
        clear HKA HRA
        obtain ⟨k, hkk, rfl, HN, HK, HP⟩ := hrel
        by_cases hlt : k < 1
        · obtain ⟨names, hnm⟩ : ∃ names, ([[f.op]] : List (List ByteArray))[k]? = some names := ⟨_, List.getElem?_eq_getElem (by simpa using hlt)⟩
          have hlen : names.length ≤ 2 := repeats_len (op := f.op) (kids := f.kids) (by rw [HR.out]; exact List.mem_of_getElem? hnm)
          obtain ⟨ak, ck, hcell, hsr⟩ := HP.out.2 k names hnm
          have HSR := Lib.hid hsr
          obtain ⟨r0, r1, _, _⟩ := rd_cells HK.out.rd.rd
          have hfind : ([[f.op]] : List (List ByteArray)).find? (repP ts i) = (if repP ts i names = true then some names else (([[f.op]] : List (List ByteArray)).drop (k + 1)).find? (repP ts i)) := by
            rw [HN.out]
            obtain ⟨hj, hje⟩ := List.getElem?_eq_some_iff.1 hnm
            rw [List.drop_eq_getElem_cons hj, hje, List.find?_cons]
            cases repP ts i names <;> rfl
          have HFI := Lib.hid hfind
          have k1 : (k : Int) < 1 := by omega
          clear hfind hnm hsr
          go_wp2_with fail
          go_at_call 101
          refine (nextAre_any ts vt _ names r i hts (by omega) (by omega) _ r0 r1 (HT.out _ HK.out.bel) HSR.out).mono ?_
          rintro e wx ⟨rfl, hbx⟩
          have HKx := Lib.hid (HK.out.bl hbx)
          have HPx := Lib.hid (HP.out.bl hbx)
          clear r0 r1 hcell hbx
          cases hnx : nextAre ts i names
          · have hst : ([[f.op]] : List (List ByteArray)).find? (repP ts i) = (([[f.op]] : List (List ByteArray)).drop (k + 1)).find? (repP ts i) := by
              rw [HFI.out]; unfold repP; rw [hnx]; rfl
            have HST := Lib.hid hst
            clear hst
            go_wp2_with fail
            go_roundw
            case rel => exact ⟨k + 1, by omega, rfl, HST, HKx, HPx⟩
            case measure => simp [intOf]; omega
          · obtain ⟨r0, r1, _, _⟩ := rd_cells HKx.out.rd.rd
            have hin : i + names.length < ts.length := nextAre_lt hnx hi
            go_wp2_with fail
            go_at_call 102
            refine (stopsAt_any ts vt r (i + 1 + names.length) _ (by omega) _ r0 (HT.out _ HKx.out.bel)).mono ?_
            rintro e wy ⟨rfl, hby⟩
            have HKy := Lib.hid (HKx.out.bl hby)
            have HPy := Lib.hid (HPx.out.bl hby)
            clear r0 r1 hby
            cases hsx : stopsAt ts (i + 1 + names.length)
            · have hst : ([[f.op]] : List (List ByteArray)).find? (repP ts i) = (([[f.op]] : List (List ByteArray)).drop (k + 1)).find? (repP ts i) := by
                rw [HFI.out]; unfold repP; rw [hnx, hsx]; rfl
              have HST := Lib.hid hst
              clear hst
              go_wp2_with fail
              go_roundw
              case rel => exact ⟨k + 1, by omega, rfl, HST, HKy, HPy⟩
              case measure => simp [intOf]; omega
            · have hst : ([[f.op]] : List (List ByteArray)).find? (repP ts i) = some names := by
                rw [HFI.out]; unfold repP; rw [hnx, hsx]; rfl
              have hrs := HRES.out
              rw [HR.out, hst] at hrs
              simp only at hrs
              have HRS := Lib.hid hrs
              clear hst hrs
              go_wp2_with fail
              go_at_call 103
              refine (drop_any ts HKy.out.rd (HT.out.trans HKy.out.bel) (HE.out.low (HKy.out.bel.mono h6)) h6 HZ.out (addF f2.pure (.mk f.tok f.op f.kids)) (rest.map Gp.pure) hin hts).mono ?_
              rintro e wz hdp
              rw [HRS.out] at hdp
              cases res with
              | ok s' =>
                have hsame := pDrop_same HRS.out
                obtain ⟨rfl, hkz⟩ := hdp
                go_wp2_with fail
                go_end0
                refine ⟨rfl, gv', _, ⟨hkz.rd, HKy.out.bel.trans hkz.bel, hkz.map.trans HKy.out.map⟩, ?_⟩
                rw [hsame.1, hsame.2.1]
                rfl
              | bad er j =>
                obtain ⟨rfl, hbz⟩ := hdp
                unfold refuse68
                go_wp2_with fail
                exact ⟨rfl, rfl, HKy.out.bel.trans hbz⟩
        · obtain rfl : k = 1 := by omega
          have hrs := HRES.out
          rw [HR.out, HN.out] at hrs
          simp only [List.drop_succ_cons, List.drop_zero, List.find?_nil] at hrs
          subst hrs
          go_wp2_with fail
          go_end0
          exact ⟨rfl, gv', _, HK.out, rfl⟩
    · have hd : decide ((f.kids.length : Int) > 0) = true := by simp; omega
      obtain ⟨k0, ks, hks⟩ : ∃ k0 ks, f.kids = k0 :: ks := by
        cases h : f.kids with
        | nil => rw [h] at hk0; exact absurd rfl hk0
        | cons a b => exact ⟨a, b, rfl⟩
      obtain ⟨kg, ko, hka, lk, m0, m2, m5⟩ : ∃ kg ko, ka = some ⟨kg, ko, none⟩ ∧ kg < W3.heap.size ∧ W3.cell? ⟨kg, ko, none⟩ = some (.int .i64 k0.tok.kind) ∧ W3.cell? ⟨kg, ko + 2, none⟩ = some (.string k0.tok.text) ∧ W3.cell? ⟨kg, ko + 5, none⟩ = some (.string k0.op) := by
        obtain ⟨a', c', g', o', hv, _, ha, hA⟩ := HF.out
        rw [HKV.out] at hv
        simp only [Value.slice.injEq] at hv
        rw [hks] at hA
        cases hA with
        | cons _ hg h0 _ h2 _ _ h5 _ _ _ _ _ => exact ⟨g', o', hv.1.trans (ha (by rw [hks]; simp)), hg, h0, h2, h5⟩
      subst hka
      have hrep0 : repeats f.op f.kids = [f.op] :: (if (k0.op.toList == [] && k0.tok.kind == 1) = true then [[k0.tok.text], [f.op, k0.tok.text]] else []) := by rw [hks]; rfl
      have HR0 := Lib.hid hrep0
      have hpos : 0 < f.kids.length := by omega
      clear hks hrep0 hk0
      cases e1 : (k0.op.toList == [])
      · have hrep : repeats f.op f.kids = [[f.op]] := by rw [HR0.out, e1]; rfl
        have HR := Lib.hid hrep
        have e2 : k0.op.toList.isEmpty = false := by rw [← e1]; cases k0.op.toList <;> rfl
        clear hrep HR0
        go_wp2_with fail
        have HRA := Lib.hid (reps_one W3 f.op)
        have HKA := Lib.hid ((K3.out.bl ((Below.refl W3.heap.size W3).alloc (Nat.le_refl _) (.cells #[.string f.op] 9))).bl ((Below.refl _ _).alloc (Nat.le_refl _) (.cells #[.slice (some ⟨W3.heap.size, 0, none⟩) 1 1] 23)))
        obtain ⟨WA, hWA⟩ : ∃ WA, (W3.alloc (.cells #[.string f.op] 9)).alloc (.cells #[.slice (some ⟨W3.heap.size, 0, none⟩) 1 1] 23) = WA := ⟨_, rfl⟩
        rw [hWA] at HRA HKA ⊢
        clear hWA
        go_loopw [56] (fun y wr => ∃ k : Nat, k ≤ 1 ∧ y = .int .i64 k ∧ Hid (([[f.op]] : List (List ByteArray)).find? (repP ts i) = (([[f.op]] : List (List ByteArray)).drop k).find? (repP ts i)) ∧ Hid (RdK B r mb vt i gv' ({ f2 with kids := f2.kids ++ [.mk f.tok f.op f.kids], kv := kv' } :: rest) w wr) ∧ Hid (Reps wr (W3.heap.size + 1) [[f.op]])) (fun y _ => 1 - (intOf y).toNat)
        case atStart => exact ⟨0, by omega, rfl, Lib.hid rfl, HKA, HRA⟩
        case round =>
          clear HKA HRA
          obtain ⟨k, hkk, rfl, HN, HK, HP⟩ := hrel
          by_cases hlt : k < 1
          · obtain ⟨names, hnm⟩ : ∃ names, ([[f.op]] : List (List ByteArray))[k]? = some names := ⟨_, List.getElem?_eq_getElem (by simpa using hlt)⟩
            have hlen : names.length ≤ 2 := repeats_len (op := f.op) (kids := f.kids) (by rw [HR.out]; exact List.mem_of_getElem? hnm)
            obtain ⟨ak, ck, hcell, hsr⟩ := HP.out.2 k names hnm
            have HSR := Lib.hid hsr
            obtain ⟨r0, r1, _, _⟩ := rd_cells HK.out.rd.rd
            have hfind : ([[f.op]] : List (List ByteArray)).find? (repP ts i) = (if repP ts i names = true then some names else (([[f.op]] : List (List ByteArray)).drop (k + 1)).find? (repP ts i)) := by
              rw [HN.out]
              obtain ⟨hj, hje⟩ := List.getElem?_eq_some_iff.1 hnm
              rw [List.drop_eq_getElem_cons hj, hje, List.find?_cons]
              cases repP ts i names <;> rfl
            have HFI := Lib.hid hfind
            have k1 : (k : Int) < 1 := by omega
            clear hfind hnm hsr
            go_wp2_with fail
            go_at_call 101
            refine (nextAre_any ts vt _ names r i hts (by omega) (by omega) _ r0 r1 (HT.out _ HK.out.bel) HSR.out).mono ?_
            rintro e wx ⟨rfl, hbx⟩
            have HKx := Lib.hid (HK.out.bl hbx)
            have HPx := Lib.hid (HP.out.bl hbx)
            clear r0 r1 hcell hbx
            cases hnx : nextAre ts i names
            · have hst : ([[f.op]] : List (List ByteArray)).find? (repP ts i) = (([[f.op]] : List (List ByteArray)).drop (k + 1)).find? (repP ts i) := by
                rw [HFI.out]; unfold repP; rw [hnx]; rfl
              have HST := Lib.hid hst
              clear hst
              go_wp2_with fail
              go_roundw
              case rel => exact ⟨k + 1, by omega, rfl, HST, HKx, HPx⟩
              case measure => simp [intOf]; omega
            · obtain ⟨r0, r1, _, _⟩ := rd_cells HKx.out.rd.rd
              have hin : i + names.length < ts.length := nextAre_lt hnx hi
              go_wp2_with fail
              go_at_call 102
              refine (stopsAt_any ts vt r (i + 1 + names.length) _ (by omega) _ r0 (HT.out _ HKx.out.bel)).mono ?_
              rintro e wy ⟨rfl, hby⟩
              have HKy := Lib.hid (HKx.out.bl hby)
              have HPy := Lib.hid (HPx.out.bl hby)
              clear r0 r1 hby
              cases hsx : stopsAt ts (i + 1 + names.length)
              · have hst : ([[f.op]] : List (List ByteArray)).find? (repP ts i) = (([[f.op]] : List (List ByteArray)).drop (k + 1)).find? (repP ts i) := by
                  rw [HFI.out]; unfold repP; rw [hnx, hsx]; rfl
                have HST := Lib.hid hst
                clear hst
                go_wp2_with fail
                go_roundw
                case rel => exact ⟨k + 1, by omega, rfl, HST, HKy, HPy⟩
                case measure => simp [intOf]; omega
              · have hst : ([[f.op]] : List (List ByteArray)).find? (repP ts i) = some names := by
                  rw [HFI.out]; unfold repP; rw [hnx, hsx]; rfl
                have hrs := HRES.out
                rw [HR.out, hst] at hrs
                simp only at hrs
                have HRS := Lib.hid hrs
                clear hst hrs
                go_wp2_with fail
                go_at_call 103
                refine (drop_any ts HKy.out.rd (HT.out.trans HKy.out.bel) (HE.out.low (HKy.out.bel.mono h6)) h6 HZ.out (addF f2.pure (.mk f.tok f.op f.kids)) (rest.map Gp.pure) hin hts).mono ?_
                rintro e wz hdp
                rw [HRS.out] at hdp
                cases res with
                | ok s' =>
                  have hsame := pDrop_same HRS.out
                  obtain ⟨rfl, hkz⟩ := hdp
                  go_wp2_with fail
                  go_end0
                  refine ⟨rfl, gv', _, ⟨hkz.rd, HKy.out.bel.trans hkz.bel, hkz.map.trans HKy.out.map⟩, ?_⟩
                  rw [hsame.1, hsame.2.1]
                  rfl
                | bad er j =>
                  obtain ⟨rfl, hbz⟩ := hdp
                  unfold refuse68
                  go_wp2_with fail
                  exact ⟨rfl, rfl, HKy.out.bel.trans hbz⟩
          · obtain rfl : k = 1 := by omega
            have hrs := HRES.out
            rw [HR.out, HN.out] at hrs
            simp only [List.drop_succ_cons, List.drop_zero, List.find?_nil] at hrs
            subst hrs
            go_wp2_with fail
            go_end0
            exact ⟨rfl, gv', _, HK.out, rfl⟩
      · have e2 : k0.op.toList.isEmpty = true := by rw [← e1]; cases k0.op.toList <;> rfl
        cases e3 : (k0.tok.kind == 1)
        · have hrep : repeats f.op f.kids = [[f.op]] := by rw [HR0.out, e1, e3]; rfl
          have HR := Lib.hid hrep
          clear hrep HR0
          go_wp2_with fail
          have HRA := Lib.hid (reps_one W3 f.op)
          have HKA := Lib.hid ((K3.out.bl ((Below.refl W3.heap.size W3).alloc (Nat.le_refl _) (.cells #[.string f.op] 9))).bl ((Below.refl _ _).alloc (Nat.le_refl _) (.cells #[.slice (some ⟨W3.heap.size, 0, none⟩) 1 1] 23)))
          obtain ⟨WA, hWA⟩ : ∃ WA, (W3.alloc (.cells #[.string f.op] 9)).alloc (.cells #[.slice (some ⟨W3.heap.size, 0, none⟩) 1 1] 23) = WA := ⟨_, rfl⟩
          rw [hWA] at HRA HKA ⊢
          clear hWA
          go_loopw [56] (fun y wr => ∃ k : Nat, k ≤ 1 ∧ y = .int .i64 k ∧ Hid (([[f.op]] : List (List ByteArray)).find? (repP ts i) = (([[f.op]] : List (List ByteArray)).drop k).find? (repP ts i)) ∧ Hid (RdK B r mb vt i gv' ({ f2 with kids := f2.kids ++ [.mk f.tok f.op f.kids], kv := kv' } :: rest) w wr) ∧ Hid (Reps wr (W3.heap.size + 1) [[f.op]])) (fun y _ => 1 - (intOf y).toNat)
          case atStart => exact ⟨0, by omega, rfl, Lib.hid rfl, HKA, HRA⟩
          case round =>
            clear HKA HRA
            obtain ⟨k, hkk, rfl, HN, HK, HP⟩ := hrel
            by_cases hlt : k < 1
            · obtain ⟨names, hnm⟩ : ∃ names, ([[f.op]] : List (List ByteArray))[k]? = some names := ⟨_, List.getElem?_eq_getElem (by simpa using hlt)⟩
              have hlen : names.length ≤ 2 := repeats_len (op := f.op) (kids := f.kids) (by rw [HR.out]; exact List.mem_of_getElem? hnm)
              obtain ⟨ak, ck, hcell, hsr⟩ := HP.out.2 k names hnm
              have HSR := Lib.hid hsr
              obtain ⟨r0, r1, _, _⟩ := rd_cells HK.out.rd.rd
              have hfind : ([[f.op]] : List (List ByteArray)).find? (repP ts i) = (if repP ts i names = true then some names else (([[f.op]] : List (List ByteArray)).drop (k + 1)).find? (repP ts i)) := by
                rw [HN.out]
                obtain ⟨hj, hje⟩ := List.getElem?_eq_some_iff.1 hnm
                rw [List.drop_eq_getElem_cons hj, hje, List.find?_cons]
                cases repP ts i names <;> rfl
              have HFI := Lib.hid hfind
              have k1 : (k : Int) < 1 := by omega
              clear hfind hnm hsr
              go_wp2_with fail
              go_at_call 101
              refine (nextAre_any ts vt _ names r i hts (by omega) (by omega) _ r0 r1 (HT.out _ HK.out.bel) HSR.out).mono ?_
              rintro e wx ⟨rfl, hbx⟩
              have HKx := Lib.hid (HK.out.bl hbx)
              have HPx := Lib.hid (HP.out.bl hbx)
              clear r0 r1 hcell hbx
              cases hnx : nextAre ts i names
              · have hst : ([[f.op]] : List (List ByteArray)).find? (repP ts i) = (([[f.op]] : List (List ByteArray)).drop (k + 1)).find? (repP ts i) := by
                  rw [HFI.out]; unfold repP; rw [hnx]; rfl
                have HST := Lib.hid hst
                clear hst
                go_wp2_with fail
                go_roundw
                case rel => exact ⟨k + 1, by omega, rfl, HST, HKx, HPx⟩
                case measure => simp [intOf]; omega
              · obtain ⟨r0, r1, _, _⟩ := rd_cells HKx.out.rd.rd
                have hin : i + names.length < ts.length := nextAre_lt hnx hi
                go_wp2_with fail
                go_at_call 102
                refine (stopsAt_any ts vt r (i + 1 + names.length) _ (by omega) _ r0 (HT.out _ HKx.out.bel)).mono ?_
                rintro e wy ⟨rfl, hby⟩
                have HKy := Lib.hid (HKx.out.bl hby)
                have HPy := Lib.hid (HPx.out.bl hby)
                clear r0 r1 hby
                cases hsx : stopsAt ts (i + 1 + names.length)
                · have hst : ([[f.op]] : List (List ByteArray)).find? (repP ts i) = (([[f.op]] : List (List ByteArray)).drop (k + 1)).find? (repP ts i) := by
                    rw [HFI.out]; unfold repP; rw [hnx, hsx]; rfl
                  have HST := Lib.hid hst
                  clear hst
                  go_wp2_with fail
                  go_roundw
                  case rel => exact ⟨k + 1, by omega, rfl, HST, HKy, HPy⟩
                  case measure => simp [intOf]; omega
                · have hst : ([[f.op]] : List (List ByteArray)).find? (repP ts i) = some names := by
                    rw [HFI.out]; unfold repP; rw [hnx, hsx]; rfl
                  have hrs := HRES.out
                  rw [HR.out, hst] at hrs
                  simp only at hrs
                  have HRS := Lib.hid hrs
                  clear hst hrs
                  go_wp2_with fail
                  go_at_call 103
                  refine (drop_any ts HKy.out.rd (HT.out.trans HKy.out.bel) (HE.out.low (HKy.out.bel.mono h6)) h6 HZ.out (addF f2.pure (.mk f.tok f.op f.kids)) (rest.map Gp.pure) hin hts).mono ?_
                  rintro e wz hdp
                  rw [HRS.out] at hdp
                  cases res with
                  | ok s' =>
                    have hsame := pDrop_same HRS.out
                    obtain ⟨rfl, hkz⟩ := hdp
                    go_wp2_with fail
                    go_end0
                    refine ⟨rfl, gv', _, ⟨hkz.rd, HKy.out.bel.trans hkz.bel, hkz.map.trans HKy.out.map⟩, ?_⟩
                    rw [hsame.1, hsame.2.1]
                    rfl
                  | bad er j =>
                    obtain ⟨rfl, hbz⟩ := hdp
                    unfold refuse68
                    go_wp2_with fail
                    exact ⟨rfl, rfl, HKy.out.bel.trans hbz⟩
            · obtain rfl : k = 1 := by omega
              have hrs := HRES.out
              rw [HR.out, HN.out] at hrs
              simp only [List.drop_succ_cons, List.drop_zero, List.find?_nil] at hrs
              subst hrs
              go_wp2_with fail
              go_end0
              exact ⟨rfl, gv', _, HK.out, rfl⟩
        · have hrep : repeats f.op f.kids = [[f.op], [k0.tok.text], [f.op, k0.tok.text]] := by rw [HR0.out, e1, e3]; rfl
          have HR := Lib.hid hrep
          clear hrep HR0
          have HRA := Lib.hid (reps_one W3 f.op)
          have hba := ((Below.refl W3.heap.size W3).alloc (Nat.le_refl _) (.cells #[.string f.op] 9)).alloc (by rw [World.size_alloc]; omega) (.cells #[.slice (some ⟨W3.heap.size, 0, none⟩) 1 1] 23)
          have HKA := Lib.hid (K3.out.bl hba)
          have p5 := (hba.cell (p := ⟨w9.heap.size, 5, none⟩) ln3).trans n5
          have p6 := (hba.cell (p := ⟨w9.heap.size, 6, none⟩) ln3).trans n6
          have q0 := (hba.cell (p := ⟨kg, ko, none⟩) lk).trans m0
          have q2 := (hba.cell (p := ⟨kg, ko + 2, none⟩) lk).trans m2
          have q5 := (hba.cell (p := ⟨kg, ko + 5, none⟩) lk).trans m5
          go_upto_region 3 with fail
          obtain ⟨WA, hWA⟩ : ∃ WA, (W3.alloc (.cells #[.string f.op] 9)).alloc (.cells #[.slice (some ⟨W3.heap.size, 0, none⟩) 1 1] 23) = WA := ⟨_, rfl⟩
          have hszA : WA.heap.size = W3.heap.size + 2 := by rw [← hWA, World.size_alloc, World.size_alloc]
          have hrow : WA.ownsRow W3.heap.size 23 1 (.slice (some ⟨W3.heap.size + 1, 0, none⟩) 1 1) 1 [.slice (some ⟨W3.heap.size, 0, none⟩) 1 1] := by
            have := heap_alloc_new (W3.alloc (.cells #[.string f.op] 9)) (.cells #[.slice (some ⟨W3.heap.size, 0, none⟩) 1 1] 23)
            rw [hWA, World.size_alloc] at this
            exact ⟨rfl, .inr ⟨_, 1, _, rfl, by omega, this, by omega, by unfold maxLen; omega, rfl, rfl⟩⟩
          have hs0 := strs_new W3 [f.op] (by simp)
          have hbx : Below (W3.alloc (.cells #[.string f.op] 9)).heap.size (W3.alloc (.cells #[.string f.op] 9)) WA := by rw [← hWA]; exact (Below.refl _ _).alloc (Nat.le_refl _) _
          rw [hWA] at hba p5 p6 q0 q2 q5 ⊢
          have lnA : w9.heap.size < WA.heap.size := by omega
          have HRW := Lib.hid hrow
          have HS0 := Lib.hid hs0
          have HBX := Lib.hid hbx
          have HBA := Lib.hid hba
          have HSA := Lib.hid hszA
          have hbt : Below WA.heap.size WA (((WA.alloc (.cells #[.string k0.tok.text] 9)).alloc (.cells #[.string f.op, .string k0.tok.text] 9)).alloc (.cells #[.slice (some ⟨WA.heap.size, 0, none⟩) 1 1, .slice (some ⟨WA.heap.size + 1, 0, none⟩) 2 2] 23)) :=
            (((Below.refl WA.heap.size WA).alloc (Nat.le_refl _) _).alloc (by rw [World.size_alloc]; omega) _).alloc (by rw [World.size_alloc, World.size_alloc]; omega) _
          have hnew : (((WA.alloc (.cells #[.string k0.tok.text] 9)).alloc (.cells #[.string f.op, .string k0.tok.text] 9)).alloc (.cells #[.slice (some ⟨WA.heap.size, 0, none⟩) 1 1, .slice (some ⟨WA.heap.size + 1, 0, none⟩) 2 2] 23)).heap[WA.heap.size + 2]? = some (.cells #[.slice (some ⟨WA.heap.size, 0, none⟩) 1 1, .slice (some ⟨WA.heap.size + 1, 0, none⟩) 2 2] 23 (0, 0)) := by
            have := heap_alloc_new ((WA.alloc (.cells #[.string k0.tok.text] 9)).alloc (.cells #[.string f.op, .string k0.tok.text] 9)) (.cells #[.slice (some ⟨WA.heap.size, 0, none⟩) 1 1, .slice (some ⟨WA.heap.size + 1, 0, none⟩) 2 2] 23)
            rwa [World.size_alloc, World.size_alloc] at this
          have HBT := Lib.hid hbt
          have HNW := Lib.hid hnew
          have hsz4 : (((WA.alloc (.cells #[.string k0.tok.text] 9)).alloc (.cells #[.string f.op, .string k0.tok.text] 9)).alloc (.cells #[.slice (some ⟨WA.heap.size, 0, none⟩) 1 1, .slice (some ⟨WA.heap.size + 1, 0, none⟩) 2 2] 23)).heap.size = WA.heap.size + 3 := by rw [World.size_alloc, World.size_alloc, World.size_alloc]
          have HS4 := Lib.hid hsz4
          have hle : W3.heap.size ≤ WA.heap.size := by omega
          have i0' := info23
          obtain ⟨i0, hi0, hz0, hz1, hz2⟩ := info_parts i0'
          clear HRA HKA hrow hs0 hbx hba hszA hWA hbt hnew hsz4 i0'
          go_wp2_with (at_builtin; refine wpList_append_lies _ rfl (.tmp 45) (.tmp 52) 131 rfl W3.heap.size 23 i0 _ 1 24 Tryz.underlying131 hi0 hz0 hz1 hz2 rfl (by omega) (.slice (some ⟨W3.heap.size + 1, 0, none⟩) 1 1) _ _ (by rfl) (owns_bl' HRW.out HBT.out) ⟨WA.heap.size + 2, 0, none⟩ 2 2 [.slice (some ⟨WA.heap.size, 0, none⟩) 1 1, .slice (some ⟨WA.heap.size + 1, 0, none⟩) 2 2] (by rfl) (by rfl) (World.news_of_block HNW.out) (by simp [Value.oneCell']) (by omega) (by unfold maxLen; omega) (by omega) (by rw [HS4.out]; omega) (WA.heap.size + 3) HS4.out ?_; intro gg cap1 w10 hown1 hgrow hat hgl)
          have hb10 : Below W3.heap.size W3 w10 := (HBA.out.trans (HBT.out.mono (by omega))).grown hgrow (by rw [HS4.out]; omega) (fun j e => by cases (Option.some.inj e : W3.heap.size + 1 = j); exact Nat.le_succ _)
          have HKA := Lib.hid (K3.out.bl hb10)
          have hrp : Reps w10 gg [[f.op], [k0.tok.text], [f.op, k0.tok.text]] := by
            have hA := HSA.out
            have t1 := strs_new WA [k0.tok.text] (by simp)
            have t2 := strs_new (WA.alloc (.cells #[.string k0.tok.text] 9)) [f.op, k0.tok.text] (by simp)
            rw [World.size_alloc] at t2
            have b1 : Below (WA.alloc (.cells #[.string k0.tok.text] 9)).heap.size (WA.alloc (.cells #[.string k0.tok.text] 9)) (((WA.alloc (.cells #[.string k0.tok.text] 9)).alloc (.cells #[.string f.op, .string k0.tok.text] 9)).alloc (.cells #[.slice (some ⟨WA.heap.size, 0, none⟩) 1 1, .slice (some ⟨WA.heap.size + 1, 0, none⟩) 2 2] 23)) :=
              ((Below.refl _ _).alloc (Nat.le_refl _) _).alloc (by simp only [World.size_alloc]; omega) _
            have b2 : Below ((WA.alloc (.cells #[.string k0.tok.text] 9)).alloc (.cells #[.string f.op, .string k0.tok.text] 9)).heap.size ((WA.alloc (.cells #[.string k0.tok.text] 9)).alloc (.cells #[.string f.op, .string k0.tok.text] 9)) (((WA.alloc (.cells #[.string k0.tok.text] 9)).alloc (.cells #[.string f.op, .string k0.tok.text] 9)).alloc (.cells #[.slice (some ⟨WA.heap.size, 0, none⟩) 1 1, .slice (some ⟨WA.heap.size + 1, 0, none⟩) 2 2] 23)) :=
              (Below.refl _ _).alloc (Nat.le_refl _) _
            have u0 := ((HS0.out.bl HBX.out).bl HBT.out).kept hgrow (fun g o n c e => by cases e; simp [Value.ownBlock])
            have u1 := (t1.bl b1).kept hgrow (fun g o n c e => by cases e; simp [Value.ownBlock]; omega)
            have u2 := (t2.bl b2).kept hgrow (fun g o n c e => by cases e; simp [Value.ownBlock]; omega)
            refine ⟨hgl, fun k names hk => ?_⟩
            match k, hk with
            | 0, hk => cases hk; exact ⟨_, _, hown1.cellAt 0 (by omega), u0⟩
            | 1, hk => cases hk; exact ⟨_, _, hown1.cellAt 1 (by omega), u1⟩
            | 2, hk => cases hk; exact ⟨_, _, hown1.cellAt 2 (by omega), u2⟩
            | k + 3, hk => simp at hk
          have HRA := Lib.hid hrp
          clear hb10 hrp hown1 hgrow hat HRW HS0 HBX HBA HSA HBT HNW HS4
          go_loopw [56] (fun y wr => ∃ k : Nat, k ≤ 3 ∧ y = .int .i64 k ∧ Hid (([[f.op], [k0.tok.text], [f.op, k0.tok.text]] : List (List ByteArray)).find? (repP ts i) = (([[f.op], [k0.tok.text], [f.op, k0.tok.text]] : List (List ByteArray)).drop k).find? (repP ts i)) ∧ Hid (RdK B r mb vt i gv' ({ f2 with kids := f2.kids ++ [.mk f.tok f.op f.kids], kv := kv' } :: rest) w wr) ∧ Hid (Reps wr (gg) [[f.op], [k0.tok.text], [f.op, k0.tok.text]])) (fun y _ => 3 - (intOf y).toNat)
          case atStart => exact ⟨0, by omega, rfl, Lib.hid rfl, HKA, HRA⟩
          case round =>
            clear HKA HRA
            obtain ⟨k, hkk, rfl, HN, HK, HP⟩ := hrel
            by_cases hlt : k < 3
            · obtain ⟨names, hnm⟩ : ∃ names, ([[f.op], [k0.tok.text], [f.op, k0.tok.text]] : List (List ByteArray))[k]? = some names := ⟨_, List.getElem?_eq_getElem (by simpa using hlt)⟩
              have hlen : names.length ≤ 2 := repeats_len (op := f.op) (kids := f.kids) (by rw [HR.out]; exact List.mem_of_getElem? hnm)
              obtain ⟨ak, ck, hcell, hsr⟩ := HP.out.2 k names hnm
              have HSR := Lib.hid hsr
              obtain ⟨r0, r1, _, _⟩ := rd_cells HK.out.rd.rd
              have hfind : ([[f.op], [k0.tok.text], [f.op, k0.tok.text]] : List (List ByteArray)).find? (repP ts i) = (if repP ts i names = true then some names else (([[f.op], [k0.tok.text], [f.op, k0.tok.text]] : List (List ByteArray)).drop (k + 1)).find? (repP ts i)) := by
                rw [HN.out]
                obtain ⟨hj, hje⟩ := List.getElem?_eq_some_iff.1 hnm
                rw [List.drop_eq_getElem_cons hj, hje, List.find?_cons]
                cases repP ts i names <;> rfl
              have HFI := Lib.hid hfind
              have k1 : (k : Int) < 3 := by omega
              clear hfind hnm hsr
              go_wp2_with fail
              go_at_call 101
              refine (nextAre_any ts vt _ names r i hts (by omega) (by omega) _ r0 r1 (HT.out _ HK.out.bel) HSR.out).mono ?_
              rintro e wx ⟨rfl, hbx⟩
              have HKx := Lib.hid (HK.out.bl hbx)
              have HPx := Lib.hid (HP.out.bl hbx)
              clear r0 r1 hcell hbx
              cases hnx : nextAre ts i names
              · have hst : ([[f.op], [k0.tok.text], [f.op, k0.tok.text]] : List (List ByteArray)).find? (repP ts i) = (([[f.op], [k0.tok.text], [f.op, k0.tok.text]] : List (List ByteArray)).drop (k + 1)).find? (repP ts i) := by
                  rw [HFI.out]; unfold repP; rw [hnx]; rfl
                have HST := Lib.hid hst
                clear hst
                go_wp2_with fail
                go_roundw
                case rel => exact ⟨k + 1, by omega, rfl, HST, HKx, HPx⟩
                case measure => simp [intOf]; omega
              · obtain ⟨r0, r1, _, _⟩ := rd_cells HKx.out.rd.rd
                have hin : i + names.length < ts.length := nextAre_lt hnx hi
                go_wp2_with fail
                go_at_call 102
                refine (stopsAt_any ts vt r (i + 1 + names.length) _ (by omega) _ r0 (HT.out _ HKx.out.bel)).mono ?_
                rintro e wy ⟨rfl, hby⟩
                have HKy := Lib.hid (HKx.out.bl hby)
                have HPy := Lib.hid (HPx.out.bl hby)
                clear r0 r1 hby
                cases hsx : stopsAt ts (i + 1 + names.length)
                · have hst : ([[f.op], [k0.tok.text], [f.op, k0.tok.text]] : List (List ByteArray)).find? (repP ts i) = (([[f.op], [k0.tok.text], [f.op, k0.tok.text]] : List (List ByteArray)).drop (k + 1)).find? (repP ts i) := by
                    rw [HFI.out]; unfold repP; rw [hnx, hsx]; rfl
                  have HST := Lib.hid hst
                  clear hst
                  go_wp2_with fail
                  go_roundw
                  case rel => exact ⟨k + 1, by omega, rfl, HST, HKy, HPy⟩
                  case measure => simp [intOf]; omega
                · have hst : ([[f.op], [k0.tok.text], [f.op, k0.tok.text]] : List (List ByteArray)).find? (repP ts i) = some names := by
                    rw [HFI.out]; unfold repP; rw [hnx, hsx]; rfl
                  have hrs := HRES.out
                  rw [HR.out, hst] at hrs
                  simp only at hrs
                  have HRS := Lib.hid hrs
                  clear hst hrs
                  go_wp2_with fail
                  go_at_call 103
                  refine (drop_any ts HKy.out.rd (HT.out.trans HKy.out.bel) (HE.out.low (HKy.out.bel.mono h6)) h6 HZ.out (addF f2.pure (.mk f.tok f.op f.kids)) (rest.map Gp.pure) hin hts).mono ?_
                  rintro e wz hdp
                  rw [HRS.out] at hdp
                  cases res with
                  | ok s' =>
                    have hsame := pDrop_same HRS.out
                    obtain ⟨rfl, hkz⟩ := hdp
                    go_wp2_with fail
                    go_end0
                    refine ⟨rfl, gv', _, ⟨hkz.rd, HKy.out.bel.trans hkz.bel, hkz.map.trans HKy.out.map⟩, ?_⟩
                    rw [hsame.1, hsame.2.1]
                    rfl
                  | bad er j =>
                    obtain ⟨rfl, hbz⟩ := hdp
                    unfold refuse68
                    go_wp2_with fail
                    exact ⟨rfl, rfl, HKy.out.bel.trans hbz⟩
            · obtain rfl : k = 3 := by omega
              have hrs := HRES.out
              rw [HR.out, HN.out] at hrs
              simp only [List.drop_succ_cons, List.drop_zero, List.find?_nil] at hrs
              subst hrs
              go_wp2_with fail
              go_end0
              exact ⟨rfl, gv', _, HK.out, rfl⟩
  · simp only [if_true] at hend
    obtain ⟨rfl, hb3⟩ := hend
    unfold refuse68
    go_wp2_with fail
    exact ⟨rfl, rfl, (HB1.out.mono hBw).trans hb3⟩
end Go.Proofs.YtopbmndjnjnmcaaGreatDoor
