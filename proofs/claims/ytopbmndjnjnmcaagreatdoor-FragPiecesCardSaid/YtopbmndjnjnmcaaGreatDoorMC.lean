/- Package fragment: texts P3, F14, F15a, F15, F16, F17, in one. -/
import Derived.Test.YtopbmndjnjnmcaaGreatDoorMB
import Derived.Test.YtopbmndjnjnmcaaGreatDoorF13
import Derived.Deep.LoopGhost
import Derived.Defers
import Derived.Recover
import Derived.Laws.Pointers
/- (P3) -/
/- Package fragment: what else holds of a reader's state. -/
namespace Go.Proofs.YtopbmndjnjnmcaaGreatDoor
open Go.RowKit Lx Go.Sort

/-- Openings are short, and the outermost one is empty. -/
def Ops (s : Rst) : Prop := (∀ g ∈ s.g :: s.stk, g.op.size ≤ maxLen) ∧ ((s.g :: s.stk).getLast?.map Grp.op) = some ⟨#[]⟩
theorem Ops.at {s s' : Rst} (h : Ops s) (hg : s'.g = s.g) (hs : s'.stk = s.stk) : Ops s' := by
  unfold Ops; rw [hg, hs]; exact h
theorem Ops.add {s : Rst} (h : Ops s) (f : Fr) (i : Nat) : Ops ⟨i, addF s.g f, s.stk⟩ := by
  obtain ⟨h1, h2⟩ := h
  refine ⟨fun g hg => ?_, ?_⟩
  · rcases List.mem_cons.1 hg with rfl | hg
    · exact h1 s.g (List.mem_cons_self)
    · exact h1 g (List.mem_cons_of_mem _ hg)
  · cases hs : s.stk with
    | nil => rw [hs] at h2; exact (by simpa using h2 : s.g.op = ⟨#[]⟩) ▸ rfl
    | cons a b => rw [hs] at h2; simpa [List.getLast?_cons_cons] using h2
theorem Ops.pop {i : Nat} {g g2 : Grp} {rest : List Grp} (h : Ops ⟨i, g, g2 :: rest⟩) : Ops ⟨i, g2, rest⟩ := by
  obtain ⟨h1, h2⟩ := h
  exact ⟨fun x hx => h1 x (List.mem_cons_of_mem _ hx), by simpa [List.getLast?_cons_cons] using h2⟩
theorem Ops.push {s : Rst} (h : Ops s) {g : Grp} (hg : g.op.size ≤ maxLen) (i : Nat) : Ops ⟨i, g, s.g :: s.stk⟩ := by
  obtain ⟨h1, h2⟩ := h
  refine ⟨fun x hx => ?_, by simpa [List.getLast?_cons_cons] using h2⟩
  rcases List.mem_cons.1 hx with rfl | hx
  · exact hg
  · exact h1 x hx
theorem Ops.base {s : Rst} (h : Ops s) (hs : s.stk = []) : s.g.op = ⟨#[]⟩ := by
  have := h.2
  rw [hs] at this
  simpa using this
section
variable {ts : List Tok} {ws : List ByteArray}
theorem pEnd_ops {s s' : Rst} (h : pEnd ts s = .ok s') (hb : Ops s) : Ops s' := by
  obtain ⟨i, g, stk⟩ := s
  unfold pEnd at h
  split at h
  · rename_i g2 rest t hs ht
    simp only at hs
    subst hs
    split at h
    · cases h
    · cases h
      exact hb.pop.add _ _
  · cases h
theorem pTake_ops {s s' : Rst} (h : pTake ts ws s = .ok s') (hb : Ops s) (hz : ∀ t ∈ ts, t.text.size ≤ maxLen) : Ops s' := by
  unfold pTake at h
  split at h
  · cases h
  · rename_i t ht
    split at h
    · split at h
      · cases h
      · exact pEnd_ops h hb
      · unfold pNamed at h
        split at h
        · cases h
        · rename_i s1 he
          have h1 := pEnd_ops he hb
          split at h
          · obtain ⟨a, b, _⟩ := pDrop_same h; exact h1.at a b
          · cases h; exact h1
    · split at h
      · split at h
        · cases h
        · cases h; exact hb.push (hz t (List.mem_of_getElem? ht)) _
      · cases h; exact hb.add _ _
end
/-- What holds at the start. -/
theorem st0_ops : Ops st0 := ⟨fun g hg => by simp [st0] at hg; subst hg; exact Nat.zero_le _, rfl⟩
theorem st0_bd : Bd 0 st0 := ⟨fun g hg => by simp [st0] at hg; subst hg; exact Nat.le_refl _, Nat.zero_le _⟩
end Go.Proofs.YtopbmndjnjnmcaaGreatDoor

/- (F14) -/
/- Package fragment: read. -/
namespace Go.Proofs.YtopbmndjnjnmcaaGreatDoor
open Go.RowKit Lx Go.Sort Go.Maps

attribute [local go_sem] Oper.semAt_some

/-- How read ends. -/
def ReadPost (res : Rd) (B : Nat) (w : World) (e : Ending) (W : World) : Prop :=
  Below B w W ∧ match res with
  | .ok l => ∃ v, e = .returned v ∧ FrRead W (fun _ => True) v l
  | .bad er j => e = refuse68 er j

theorem FrRead.all {W : World} {S : Nat → Prop} {v : Value} {l : List Fr} (h : FrRead W S v l) : FrRead W (fun _ => True) v l := h.keep fun _ _ _ => ⟨rfl, trivial⟩

set_option maxRecDepth 100000 in
set_option maxHeartbeats 4000000 in
/-- **read** -/
theorem read_any (ts : List Tok) (ws : List ByteArray) {B r mb : Nat} {vt gv : Value} {fs : List Gp} {w : World} (h : RdI B r mb vt 0 gv fs w) (hfs : fs.map Gp.pure = st0.g :: st0.stk) (hr : TokLow B vt ts w) (hcl : Clos w mb r (clo ws)) (he : Env w) (h6 : 6 ≤ B) (hz : ∀ t ∈ ts, t.text.size ≤ maxLen)
    (hts : ts.length ≤ 6000) (hb0 : clo ws [] = none) :
    Calls Tryz.prog 49 #[.pointer (some ⟨r, 0, none⟩)] w fun e W => ReadPost (pRead0 ts ws) B w e W := by
  have H0 : Hid (RdK B r mb vt ((0 : Nat) : Int) gv fs w w) := Lib.hid ⟨h, Below.refl _ _, rfl⟩
  have HF := Lib.hid hfs
  have HT := Lib.hid hr
  have HE := Lib.hid he
  have HZ := Lib.hid hz
  have HC := Lib.hid hcl
  have HB := Lib.hid hb0
  clear h hfs hr he hz hcl hb0
  obtain ⟨res, hres⟩ : ∃ res, pRead0 ts ws = res := ⟨_, rfl⟩
  rw [hres]
  have HR := Lib.hid hres
  clear hres
  go_enter Tryz.func49, Tryz.ntmps49
  go_wp2_with fail
  go_loopg [3] ts.length (fun k x wr => ∃ (s : Rst) (gv' : Value) (fs' : List Gp), ts.length ≤ s.at_ + k ∧ s.at_ ≤ ts.length ∧ Hid (pGo ts ws ts.length st0 = pGo ts ws k s) ∧ Hid (RdK B r mb vt (s.at_ : Int) gv' fs' w wr) ∧ Hid (fs'.map Gp.pure = s.g :: s.stk) ∧ Hid (Bd s.at_ s) ∧ Hid (Ops s))
  case atStart => exact ⟨st0, gv, fs, by simp [st0], by simp [st0], Lib.hid rfl, H0, HF, Lib.hid st0_bd, Lib.hid st0_ops⟩
  case round =>
    clear H0 HF
    obtain ⟨s, gv', fs', hk1, hk2, HG, HK, HS, HD, HO⟩ := hrel
    obtain ⟨f, rest, hfr⟩ : ∃ f rest, fs' = f :: rest := by
      cases fs' with
      | nil => have := HS.out; cases this
      | cons a b => exact ⟨a, b, rfl⟩
    subst hfr
    obtain ⟨r0, r1, r2, r3⟩ := rd_cells HK.out.rd.rd
    obtain ⟨va, vc, hvt, hm, hc⟩ : ∃ a c, vt = .slice a ts.length c ∧ ts.length ≤ maxLen ∧ ts.length ≤ c := by
      obtain ⟨a, c, hv, ⟨h1, h2⟩, _⟩ := HT.out w (Below.refl _ _)
      exact ⟨a, c, hv, h1, h2⟩
    rw [hvt] at r0
    have HVT := Lib.hid hvt
    clear hvt
    have hs : s = ⟨s.at_, f.pure, rest.map Gp.pure⟩ := by
      have := HS.out
      simp only [List.map_cons, List.cons.injEq] at this
      obtain ⟨h1, h2⟩ := this
      rw [h1, h2]
    have HSS := Lib.hid hs
    have hrl : rest.length = s.stk.length := by
      have := congrArg Rst.stk hs
      simp only at this
      rw [this, List.length_map]
    have HRL := Lib.hid hrl
    have hbB : B ≤ wr.heap.size := by have := HK.out.rd.base.2; omega
    clear hs hrl
    by_cases hlt : s.at_ < ts.length
    · have hd : decide (s.at_ < ts.length) = true := by simpa using hlt
      obtain ⟨t, ht⟩ : ∃ t, ts[s.at_]? = some t := ⟨_, List.getElem?_eq_getElem hlt⟩
      obtain ⟨k', hkk⟩ : ∃ k', gk = k' + 1 := ⟨gk - 1, by omega⟩
      subst hkk
      have hg := HG.out
      simp only [pGo] at hg
      rw [if_pos hlt, show pCheck ts s.at_ = tokOk t by unfold pCheck; rw [ht]] at hg
      have hck := fun n => rdCheck_any ts vt r s.at_ t ht (HZ.out t (List.mem_of_getElem? ht)) (wr.drewN n) (HE.out.low ((below_drewN HK.out.bel n).mono h6)) (by rw [HVT.out]; exact r0) r1 (HT.out _ (below_drewN HK.out.bel n))
      have HTT := Lib.hid ht
      clear ht
      cases hq : tokOk t
      · rw [hq] at hg
        simp only [hq, Bool.false_eq_true, if_false] at hck hg
        have hrs : res = .bad 14 s.at_ := by rw [← HR.out]; unfold pRead0; rw [hg]
        subst hrs
        have HCK := Lib.hid hck
        clear hck hg hq
        go_wp2_with fail
        go_quiet (fail)
        go_wp2_with fail
        go_at_call 72
        refine (HCK.out nq).mono ?_
        rintro e w9 ⟨rfl, hb9⟩
        unfold refuse68
        go_wp2_with fail
        exact ⟨rfl, (below_drewN HK.out.bel nq).trans (hb9.mono hbB), rfl⟩
      · rw [hq] at hg
        simp only [hq, if_true] at hck hg
        have HCK := Lib.hid hck
        have HGG := Lib.hid hg
        clear hck hg hq
        go_wp2_with fail
        go_quiet (fail)
        go_wp2_with fail
        go_at_call 72
        refine (HCK.out nq).mono ?_
        rintro e w9 ⟨rfl, hb9⟩
        have K9 := Lib.hid ((HK.out.bl (below_drewN (Below.refl _ _) nq)).bl hb9)
        have hkids : ∀ g ∈ f :: rest, g.kids.length ≤ 6000 := fun g hg => by
          have h1 := HD.out.1 g.pure (by rw [← HS.out]; exact List.mem_map_of_mem hg)
          have h2 : g.pure.kids = g.kids := rfl
          rw [h2] at h1; omega
        have hst : rest.length ≤ 100 := by rw [HRL.out]; exact HD.out.2
        have hop : f.op.size ≤ maxLen := HO.out.1 f.pure (by rw [← HS.out]; exact List.mem_map_of_mem (List.mem_cons_self))
        have hb00 : rest = [] → clo ws f.op.toList = none := fun hr0 => by
          have h1 := HO.out.base (by
            have := HRL.out
            rw [hr0] at this
            exact List.eq_nil_of_length_eq_zero this.symm)
          rw [HSS.out] at h1
          rw [show f.op = ⟨#[]⟩ from h1, toList_data]
          exact HB.out
        go_wp2_with fail
        go_at_call 73
        refine (take_any ts ws K9.out.rd HTT.out (HT.out.trans K9.out.bel) (HC.out.keep K9.out.map) (HE.out.low (K9.out.bel.mono h6)) h6 HZ.out hkids hst hts hop hb00).mono ?_
        rintro e w8 htk
        rw [← HSS.out] at htk
        have hgg := HGG.out
        cases hpt : pTake ts ws s with
        | bad er j =>
          rw [hpt] at htk hgg
          obtain ⟨rfl, hb8⟩ := htk
          have hrs : res = .bad er j := by rw [← HR.out]; unfold pRead0; rw [hgg]
          subst hrs
          unfold refuse68
          go_wp2_with fail
          exact ⟨rfl, K9.out.bel.trans hb8, rfl⟩
        | ok s' =>
          rw [hpt] at htk hgg
          obtain ⟨rfl, gv2, fs2, hk8, hmap⟩ := htk
          have K8 : RdK B r mb vt (s'.at_ : Int) gv2 fs2 w w8 := ⟨hk8.rd, K9.out.bel.trans hk8.bel, hk8.map.trans K9.out.map⟩
          have hlt' := pTake_lt hpt hlt
          have hle := pTake_ok hpt
          have hbd := pTake_bd hpt HD.out
          have hops := pTake_ops hpt HO.out HZ.out
          have K8s := K8.step ((s'.at_ + 1 : Nat) : Int)
          have hrow := K8.rd.rd
          have fz := rd_frozen hrow 1
          have HK8 := Lib.hid K8s
          have HMP := Lib.hid hmap
          have HBD : Hid (Bd (s'.at_ + 1) { s' with at_ := s'.at_ + 1 }) := Lib.hid ((hbd.mono (by omega)).at rfl rfl)
          have HOPS : Hid (Ops { s' with at_ := s'.at_ + 1 }) := Lib.hid (hops.at rfl rfl)
          have HGN : Hid (pGo ts ws ts.length st0 = pGo ts ws k' { s' with at_ := s'.at_ + 1 }) := Lib.hid hgg
          clear r0 r1 r2 r3
          obtain ⟨r0, r1, r2, r3⟩ := rd_cells hrow
          have hw1 : IntKind.i64.wrap ((s'.at_ : Int) + 1) = ((s'.at_ + 1 : Nat) : Int) := by rw [IntWalk.i64_in _ (by omega)]; omega
          clear K8s hmap hbd hops hgg hrow hk8 K8 hpt
          go_wp2_with fail
          go_roundg k'
          case measure => omega
          case rel => exact ⟨{ s' with at_ := s'.at_ + 1 }, gv2, fs2, by simp only; omega, by simp only; omega, HGN, HK8, HMP, HBD, HOPS⟩
    · have hd : decide (s.at_ < ts.length) = false := by simpa using hlt
      obtain ⟨gb, cap, hgv, hc1, hc2, hB, hgbl, hcell⟩ := HK.out.rd.head
      have g6 := hcell 6 _ rfl
      have g7 := hcell 7 _ rfl
      rw [hgv] at r2
      have hpg : pGo ts ws ts.length st0 = .ok s := by
        rw [HG.out]
        cases gk with
        | zero => rfl
        | succ n => simp only [pGo]; rw [if_neg hlt]
      have HPG := Lib.hid hpg
      have fz := rd_frozen HK.out.rd.rd 1
      have HGV := Lib.hid hgv
      clear hcell hpg hgv
      by_cases h0 : rest.length = 0
      · have hres2 : res = .ok f.kids := by
          rw [← HR.out]; unfold pRead0; rw [HPG.out]; simp only
          rw [if_pos (by rw [← HRL.out]; exact h0), HSS.out]; rfl
        subst hres2
        have d1 : decide (((rest.length + 1 : Nat) : Int) > 1) = false := by simp; omega
        have d2 : rest.length < 1 := by omega
        have d3 : decide (0 < rest.length) = false := decide_eq_false (by omega)
        clear h0
        go_wp2_with fail
        go_quiet (fail)
        go_wp2_with fail
        go_at_call 74
        refine (inner_any r gb rest.length cap hc1 hc2 (wr.drewN nq) r2).mono ?_
        rintro e w9 ⟨rfl, k, hw9⟩
        have e6 : w9.cell? ⟨gb, rest.length * 8 + 6, none⟩ = some f.kv := by rw [hw9]; exact g6
        have hb9 : Below wr.heap.size wr w9 := by rw [hw9]; exact below_drewN (below_drewN (Below.refl _ _) nq) k
        have K9 := Lib.hid (HK.out.bl hb9)
        obtain ⟨xs, hown, hkc⟩ := K9.out.rd.kids f (List.mem_cons_self)
        have hfr := Lib.hid (kids_read hown rfl hkc (S' := fun _ => True) (fun _ _ _ => trivial) (fun _ _ => trivial))
        obtain ⟨ka, kc, hkv⟩ : ∃ a c, f.kv = .slice a f.kids.length c := by
          rcases hown.2 with ⟨h, h0⟩ | ⟨g, cap, cur, h, _⟩
          · exact ⟨_, _, by rw [h, h0]⟩
          · exact ⟨_, _, h⟩
        rw [hkv] at e6 hfr
        clear hw9 hb9 hown hkc g6 g7 hkv
        go_wp2_with fail
        go_ret
        exact ⟨K9.out.bel, _, rfl, hfr.out⟩
      · have hres2 : res = .bad 21 f.from_ := by
          rw [← HR.out]; unfold pRead0; rw [HPG.out]; simp only
          rw [if_neg (by rw [← HRL.out]; exact h0), HSS.out]; rfl
        subst hres2
        have d1 : decide (((rest.length + 1 : Nat) : Int) > 1) = true := by simp; omega
        go_wp2_with fail
        go_quiet (fail)
        go_wp2_with fail
        go_at_call 74
        refine (inner_any r gb rest.length cap hc1 hc2 (wr.drewN nq) r2).mono ?_
        rintro e w9 ⟨rfl, k, hw9⟩
        have e7 : w9.cell? ⟨gb, rest.length * 8 + 7, none⟩ = some (.int .i64 f.from_) := by rw [hw9]; exact g7
        have hb9 : Below wr.heap.size wr w9 := by rw [hw9]; exact below_drewN (below_drewN (Below.refl _ _) nq) k
        have K9 := Lib.hid (HK.out.bl hb9)
        have KS := Lib.hid (K9.out.step f.from_)
        obtain ⟨_, y1, _, _⟩ := rd_cells K9.out.rd.rd
        have fz9 := rd_frozen K9.out.rd.rd 1
        obtain ⟨_, z1, _, _⟩ := rd_cells KS.out.rd.rd
        clear hw9 hb9 g6 g7
        go_wp2_with fail
        go_at_call 69
        refine (refuse68_any r 21 f.from_ _ z1).mono ?_
        rintro e w' ⟨rfl, rfl⟩
        unfold refuse68
        go_wp2_with fail
        exact ⟨rfl, KS.out.bel, rfl⟩
end Go.Proofs.YtopbmndjnjnmcaaGreatDoor

/- (F15a) -/
/- Package fragment: filling the map of what closes. -/
namespace Go.Proofs.YtopbmndjnjnmcaaGreatDoor
open Go.RowKit Lx Go.Sort Go.Maps Go.WideMaps

def updF (f : List UInt8 → Option Bool) (k : List UInt8) (b : Bool) (x : List UInt8) : Option Bool := if x = k then some b else f x
/-- A map of what closes that has so many entries at most. -/
def ClosN (W : World) (mb r : Nat) (f : List UInt8 → Option Bool) (n : Nat) : Prop := ∃ D, W.ownsMap Tryz.prog 9 (closeR r) mb n D ∧ ClosD f D
theorem ClosN.clos {W : World} {mb r n : Nat} {f : List UInt8 → Option Bool} (h : ClosN W mb r f n) (hn : n ≤ 100) : Clos W mb r f := by
  obtain ⟨D, h1, h2⟩ := h
  exact ⟨D, n, h1, h2, hn⟩
theorem ClosN.eq {W : World} {mb r n : Nat} {f g : List UInt8 → Option Bool} (h : ClosN W mb r f n) (he : ∀ x, f x = g x) : ClosN W mb r g n := by
  obtain rfl : f = g := funext he
  exact h
theorem ClosN.keep {W W' : World} {mb r n : Nat} {f : List UInt8 → Option Bool} (h : ClosN W mb r f n) (hm : W'.heap[mb]? = W.heap[mb]?) : ClosN W' mb r f n := by
  obtain ⟨D, ⟨es, clock, hb, hF⟩, h2⟩ := h
  exact ⟨D, ⟨es, clock, hm.trans hb, hF⟩, h2⟩
theorem ClosN.map {W : World} {mb r n : Nat} {f : List UInt8 → Option Bool} (h : ClosN W mb r f n) : (∀ cs e z, W.heap[mb]? ≠ some (.cells cs e z)) ∧ mb < W.heap.size := by
  obtain ⟨D, ⟨es, clock, hb, hF⟩, h2⟩ := h
  exact ⟨(fun cs e z he => by rw [hb] at he; cases he), (Array.getElem?_eq_some_iff.1 hb).1⟩
theorem ClosN.new (W : World) (r : Nat) : ClosN (W.alloc (.map #[] 0)) W.heap.size r (fun _ => none) 0 :=
  ⟨.map [], World.ownsMap_made _ _ _ _, ⟨isMap_empty, fun _ => ⟨rfl, rfl⟩⟩⟩

theorem closeR_put (r : Nat) (b : Bool) : closeR r (closerV r (some b)) = some (.lit (.int .i64 (codeOf (some b))), []) := by
  cases b
  · exact closeR_end r
  · exact closeR_named r
theorem lit_ne {s t : ByteArray} (h : ¬ s.toList = t.toList) : (Lit.string s.data.toList : Lit) ≠ .string t.data.toList := fun e => h (by
  rw [toList_data, toList_data]
  exact Lit.string.inj e)

theorem ClosN.put {W : World} {mb r n : Nat} {f : List UInt8 → Option Bool} (h : ClosN W mb r f n) (hn : n < 100) {s : ByteArray} (hs : s.size ≤ maxLen) (b : Bool) :
    ∃ W', (Instr.mapUpdate 99 (.map (some mb)) (.string s) (closerV r (some b))).run Tryz.prog W = .ok () W' ∧ ClosN W' mb r (updF f s.toList b) (n + 1) ∧ W.grownBy W' (some mb) := by
  obtain ⟨D, ho, hm, hf⟩ := h
  obtain ⟨W', hrun, ho', hg⟩ := ho.update key9 Tryz.underlying99 (by unfold maxLen; omega) (keyOf_string_mk Tryz.underlying9 hs) (closeR_put r b)
  refine ⟨W', hrun, ⟨_, ho', hm.put _ _, fun t => ?_⟩, hg⟩
  by_cases he : t.toList = s.toList
  · have hd : t.data.toList = s.data.toList := by rw [← toList_data, ← toList_data]; exact he
    rw [hd, has_put_same hm (by simp [WideAt.IsKeyLit]), atKey_put_same hm (by simp [WideAt.IsKeyLit])]
    unfold updF
    rw [if_pos he]
    exact ⟨rfl, rfl⟩
  · rw [has_put_other (lit_ne he), atKey_put_other (lit_ne he)]
    unfold updF
    rw [if_neg he]
    exact hf t

theorem wpList_insert_clos (w : World) {ops : Array Oper} {rest : List Oper} {o : Oper} {a : Act} {Q : Exit → Act → World → Prop}
    (hg : o.guard = none) (m x v : Operand) (hop : o.op = Op.insert 99 m x v) {mb r n : Nat} {f : List UInt8 → Option Bool} (h : ClosN w mb r f n) (hn : n < 100) (s : ByteArray) (b : Bool)
    (hm : a.eval m = .map (some mb)) (hx : a.eval x = .string s) (hv : a.eval v = closerV r (some b)) (hs : s.size ≤ maxLen)
    (hK : ∀ w', ClosN w' mb r (updF f s.toList b) (n + 1) → w.grownBy w' (some mb) → wpList Tryz.prog ops Q rest (a.put o.dst undef) w') :
    wpList Tryz.prog ops Q (o :: rest) a w := by
  refine wpList_plain hg fun K' hK' => ?_
  obtain ⟨w', hrun, r1, r2⟩ := h.put hn hs b
  unfold Oper.wp
  simp [execOp, hop, hm, hx, hv, hrun, Result.andThen]
  exact hK' _ _ (hK w' r1 r2)
theorem wpList_update_clos (w : World) {ops : Array Oper} {rest : List Oper} {o : Oper} {a : Act} {Q : Exit → Act → World → Prop}
    (hg : o.guard = none) (m x v : Operand) (hop : o.op = Op.mapUpdate 99 m x v) {mb r n : Nat} {f : List UInt8 → Option Bool} (h : ClosN w mb r f n) (hn : n < 100) (s : ByteArray) (b : Bool)
    (hm : a.eval m = .map (some mb)) (hx : a.eval x = .string s) (hv : a.eval v = closerV r (some b)) (hs : s.size ≤ maxLen)
    (hK : ∀ w', ClosN w' mb r (updF f s.toList b) (n + 1) → w.grownBy w' (some mb) → wpList Tryz.prog ops Q rest (a.put o.dst undef) w') :
    wpList Tryz.prog ops Q (o :: rest) a w := by
  refine wpList_plain hg fun K' hK' => ?_
  obtain ⟨w', hrun, r1, r2⟩ := h.put hn hs b
  unfold Oper.wp
  simp [execOp, hop, hm, hx, hv, hrun, Result.andThen]
  exact hK' _ _ (hK w' r1 r2)

theorem lists9 : (bs1 40).toList = [40] ∧ (bs1 91).toList = [91] ∧ (bs1 123).toList = [123] ∧ tBegin.toList = [98, 101, 103, 105, 110] ∧ tIf.toList = [105, 102] ∧ tBlock.toList = [98, 108, 111, 99, 107] ∧ tMethod.toList = [109, 101, 116, 104, 111, 100] ∧ tClass.toList = [99, 108, 97, 115, 115] ∧ tMacro.toList = [109, 97, 99, 114, 111] := by
  simp only [toList_data]
  exact ⟨rfl, rfl, rfl, rfl, rfl, rfl, rfl, rfl, rfl⟩
/-- The nine entries. -/
def nine : List UInt8 → Option Bool := updF (updF (updF (updF (updF (updF (updF (updF (updF (fun _ => none) (bs1 40).toList false) (bs1 91).toList false) (bs1 123).toList false) tBegin.toList false) tIf.toList false) tBlock.toList false) tMethod.toList true) tClass.toList true) tMacro.toList true
theorem nine_clo (x : List UInt8) : nine x = clo [] x := by
  have e : ∀ a b : List UInt8, (a == b) = decide (b = a) := fun a b => by
    by_cases h : a = b
    · subst h; simp
    · have h2 : ¬ b = a := fun e => h e.symm
      simp [h, h2]
  unfold nine clo
  simp only [updF, List.any_nil, Bool.false_eq_true, if_false, List.any_cons, e, Bool.or_false, Bool.or_eq_true, decide_eq_true_eq]
  obtain ⟨l1, l2, l3, l4, l5, l6, l7, l8, l9⟩ := lists9
  rw [l1, l2, l3, l4, l5, l6, l7, l8, l9]
  by_cases h1 : x = [109, 97, 99, 114, 111]
  · subst h1; decide
  by_cases h2 : x = [99, 108, 97, 115, 115]
  · subst h2; decide
  by_cases h3 : x = [109, 101, 116, 104, 111, 100]
  · subst h3; decide
  simp only [h1, h2, h3, if_false, or_self]
  by_cases h4 : x = [98, 108, 111, 99, 107]
  · simp [h4]
  by_cases h5 : x = [105, 102]
  · simp [h5]
  by_cases h6 : x = [98, 101, 103, 105, 110]
  · simp [h6]
  by_cases h7 : x = [123]
  · simp [h7]
  by_cases h8 : x = [91]
  · simp [h8]
  by_cases h9 : x = [40]
  · simp [h9]
  simp [h4, h5, h6, h7, h8, h9]
theorem clo_snoc (ws : List ByteArray) (s : ByteArray) (x : List UInt8) : updF (clo ws) s.toList false x = clo (ws ++ [s]) x := by
  unfold updF clo
  rw [List.any_append]
  by_cases h : x = s.toList
  · subst h; simp
  · have h2 : (s.toList == x) = false := by simp; exact fun e => h e.symm
    simp only [h, if_false, List.any_cons, h2, List.any_nil, Bool.or_false]
end Go.Proofs.YtopbmndjnjnmcaaGreatDoor

/- (F15) -/
/- Package fragment: newReader. -/
namespace Go.Proofs.YtopbmndjnjnmcaaGreatDoor
open Go.RowKit Lx Go.Sort Go.Maps

attribute [local go_sem] Oper.semAt_some

def gp0 : Gp := ⟨zTok, ⟨#[]⟩, [], 0, .slice none 0 0⟩
/-- What newReader returns. -/
def NewPost (ws : List ByteArray) (vt : Value) (w : World) (e : Ending) (W : World) : Prop :=
  Below w.heap.size w W ∧ e = .returned (.pointer (some ⟨w.heap.size + 1, 0, none⟩)) ∧ ∃ mb, RdI w.heap.size (w.heap.size + 1) mb vt 0 (.slice (some ⟨w.heap.size, 0, none⟩) 1 1) [gp0] W ∧ Clos W mb (w.heap.size + 1) (clo ws)

/-- What newReader holds between two rounds. -/
structure NewI (ws : List ByteArray) (vt : Value) (w : World) (mb k : Nat) (W : World) : Prop where
  clos : ClosN W mb (w.heap.size + 1) (clo (ws.take k)) (9 + k)
  rd : W.heap[w.heap.size + 1]? = some (.cells #[vt, .int .i64 0, .slice (some ⟨w.heap.size, 0, none⟩) 1 1, .map (some mb)] 101 (0, 0))
  gs : W.heap[w.heap.size]? = some (.cells #[.int .i64 0, .int .i64 0, .string ⟨#[]⟩, .int .i64 0, .int .i64 0, .string ⟨#[]⟩, .slice none 0 0, .int .i64 0] 97 (0, 0))
  bel : Below w.heap.size w W
  big : w.heap.size + 1 < mb
theorem NewI.step {ws : List ByteArray} {vt : Value} {w W W' : World} {mb k : Nat} {s : ByteArray} (h : NewI ws vt w mb k W) (hs : ws[k]? = some s) (hc : ClosN W' mb (w.heap.size + 1) (updF (clo (ws.take k)) s.toList false) (9 + k + 1)) (hg : W.grownBy W' (some mb)) : NewI ws vt w mb (k + 1) W' := by
  obtain ⟨_, h2, h3, h4, h5⟩ := h
  refine ⟨hc.eq fun x => ?_, (hg.block _ (Array.getElem?_eq_some_iff.1 h2).1 (by simp; omega)).trans h2, (hg.block _ (Array.getElem?_eq_some_iff.1 h3).1 (by simp; omega)).trans h3, h4.grown hg h4.size (fun j e => by cases e; omega), h5⟩
  rw [List.take_add_one, hs]
  exact clo_snoc _ _ _
theorem NewI.done {ws : List ByteArray} {vt : Value} {w W : World} {mb : Nat} (h : NewI ws vt w mb ws.length W) (hl : ws.length ≤ 40) : NewPost ws vt w (.returned (.pointer (some ⟨w.heap.size + 1, 0, none⟩))) W := by
  obtain ⟨h1, h2, h3, h4, h5⟩ := h
  rw [List.take_length] at h1
  refine ⟨h4, rfl, mb, ⟨⟨by omega, by omega, h1.map.2⟩, h2, h1.map.1, ?_, fun f hf => ?_, List.pairwise_singleton _ _⟩, h1.clos (by omega)⟩
  · exact ⟨rfl, .inr ⟨w.heap.size, 1, _, rfl, Nat.le_refl _, h3, Nat.le_refl _, by unfold maxLen; simp, rfl, rfl⟩⟩
  · obtain rfl := List.mem_singleton.1 hf
    exact ⟨[], World.ownsRow_nil _ _ _ _, rfl⟩

set_option maxRecDepth 100000 in
set_option maxHeartbeats 4000000 in
/-- **newReader** -/
theorem newReader_any (ts : List Tok) (ws : List ByteArray) (vt vw : Value) (w : World) (hr : TokRead w vt ts) (hw : StrRead w vw ws) (he : Env w) (hz : ∀ s ∈ ws, s.size ≤ maxLen) (h1 : okWords ws = true) (h2 : ts.length ≤ 6000) :
    Calls Tryz.prog 48 #[vt, vw] w fun e W => NewPost ws vt w e W := by
  have hmm := @run_makeMap Tryz.prog
  have hmf : ∀ (fn : Fn) (first cap : Array Value) (w : World), (Instr.makeFunc fn first cap).run Tryz.prog w = .ok (.func fn first cap) w := fun _ _ _ _ => rfl
  have hb0 := ((Below.refl w.heap.size w).alloc (Nat.le_refl _) (.cells #[.int .i64 0, .int .i64 0, .string ⟨#[]⟩, .int .i64 0, .int .i64 0, .string ⟨#[]⟩, .slice none 0 0, .int .i64 0] 97)).alloc (by rw [World.size_alloc]; omega) (.cells #[vt, .int .i64 0, .slice (some ⟨w.heap.size, 0, none⟩) 1 1, .map none] 101)
  have hwl : ws.length ≤ 40 := by
    unfold okWords at h1
    simp only [Bool.and_eq_true, decide_eq_true_eq] at h1
    exact h1.1
  have har := areRight_any vw ws _ (he.below hb0) hz (hw.bl hb0)
  have HAR := Lib.hid har
  have HB0 := Lib.hid hb0
  have HWR := Lib.hid hw
  have HZ := Lib.hid hz
  have hk1 := heap_alloc_new (w.alloc (.cells #[.int .i64 0, .int .i64 0, .string ⟨#[]⟩, .int .i64 0, .int .i64 0, .string ⟨#[]⟩, .slice none 0 0, .int .i64 0] 97)) (.cells #[vt, .int .i64 0, .slice (some ⟨w.heap.size, 0, none⟩) 1 1, .map none] 101)
  rw [World.size_alloc] at hk1
  have hk0 : ((w.alloc (.cells #[.int .i64 0, .int .i64 0, .string ⟨#[]⟩, .int .i64 0, .int .i64 0, .string ⟨#[]⟩, .slice none 0 0, .int .i64 0] 97)).alloc (.cells #[vt, .int .i64 0, .slice (some ⟨w.heap.size, 0, none⟩) 1 1, .map none] 101)).heap[w.heap.size]? = some (.cells #[.int .i64 0, .int .i64 0, .string ⟨#[]⟩, .int .i64 0, .int .i64 0, .string ⟨#[]⟩, .slice none 0 0, .int .i64 0] 97 (0, 0)) :=
    (((Below.refl _ _).alloc (Nat.le_refl _) _).block _ (by rw [World.size_alloc]; omega)).trans (heap_alloc_new w _)
  have HK0 := Lib.hid hk0
  have HK1 := Lib.hid hk1
  obtain ⟨a, c, hvt, ⟨hn, hc⟩, _⟩ := hr
  subst hvt
  obtain ⟨aw, cw, hvw, ⟨hnw, hcw⟩, _⟩ := hw
  subst hvw
  unfold maxLen at hn
  have d1 : decide ((ts.length : Int) > 6000) = false := decide_eq_false (by omega)
  clear har hb0 hz hk0 hk1
  go_enter Tryz.func48, Tryz.ntmps48
  go_wp2_with fail
  go_at_call 61
  refine HAR.out.mono ?_
  rintro e W1 ⟨rfl, hb1⟩
  rw [h1]
  have l0 := (hb1.block w.heap.size (by rw [World.size_alloc, World.size_alloc]; omega)).trans HK0.out
  have l1 := (hb1.block (w.heap.size + 1) (by rw [World.size_alloc, World.size_alloc]; omega)).trans HK1.out
  have L0 := Lib.hid l0
  have L1 := Lib.hid l1
  have HB1 := Lib.hid (HB0.out.trans (hb1.mono HB0.out.size))
  have hlt1 : w.heap.size + 1 < W1.heap.size := (Array.getElem?_eq_some_iff.1 l1).1
  obtain ⟨_, _, _, b3⟩ := rd_cells l1
  have bf3 := rd_frozen l1 3
  have hcl := ClosN.new W1 (w.heap.size + 1)
  have hbm : Below W1.heap.size W1 (W1.alloc (.map #[] 0)) := (Below.refl _ _).alloc (Nat.le_refl _) _
  clear hb1 l0 l1 HK0 HK1 HB0 HAR
  go_wp2_with (first
    | (refine wpList_insert_clos _ (by rfl) (.tmp 24) _ _ (by rfl) hcl (by omega) _ false (by rfl) (by rfl) (by rfl) (by decide) ?_; intro w' hcl hgr; have hbm := hbm.grown hgr hbm.size (fun k e => by cases e; exact Nat.le_refl _); have r3 := (hbm.cell (p := ⟨w.heap.size + 1, 3, none⟩) hlt1).trans b3; have f3 := (hbm.frozen (p := ⟨w.heap.size + 1, 3, none⟩) hlt1).trans bf3)
    | (refine wpList_insert_clos _ (by rfl) (.tmp 24) _ _ (by rfl) hcl (by omega) _ true (by rfl) (by rfl) (by rfl) (by decide) ?_; intro w' hcl hgr; have hbm := hbm.grown hgr hbm.size (fun k e => by cases e; exact Nat.le_refl _); have r3 := (hbm.cell (p := ⟨w.heap.size + 1, 3, none⟩) hlt1).trans b3; have f3 := (hbm.frozen (p := ⟨w.heap.size + 1, 3, none⟩) hlt1).trans bf3))
  have hI : NewI ws (.slice a ts.length c) w W1.heap.size 0 (w'.setCell ⟨w.heap.size + 1, 3, none⟩ (.map (some W1.heap.size))) := by
    have hne : W1.heap.size ≠ w.heap.size + 1 := by omega
    refine ⟨?_, ?_, ?_, ?_, hlt1⟩
    · refine ClosN.keep (hcl.eq fun x => ?_) (set_ne _ _ _ _ hne)
      exact nine_clo x
    · exact heap_set' w' (w.heap.size + 1) 3 _ ((hbm.block _ hlt1).trans L1.out)
    · exact (set_ne _ _ _ _ (by omega)).trans ((hbm.block _ (by omega)).trans L0.out)
    · exact (HB1.out.trans (hbm.mono (by omega))).setCell (by show w.heap.size ≤ w.heap.size + 1; omega) _
  have HI := Lib.hid hI
  obtain ⟨W3, hW3⟩ : ∃ W3, w'.setCell ⟨w.heap.size + 1, 3, none⟩ (.map (some W1.heap.size)) = W3 := ⟨_, rfl⟩
  rw [hW3] at HI ⊢
  clear hI hcl hgr hbm r3 f3 b3 bf3 hW3 L0 L1 HB1
  obtain ⟨M, hM⟩ : ∃ M, W1.heap.size = M := ⟨_, rfl⟩
  rw [hM] at HI ⊢
  clear hM
  have HWR2 := Lib.hid (fun W (hb : Below w.heap.size w W) => HWR.out.bl hb)
  go_loopw [48] (fun y wr => ∃ k : Nat, k ≤ ws.length ∧ y = .int .i64 k ∧ Hid (NewI ws (.slice a ts.length c) w M k wr)) (fun y _ => ws.length - (intOf y).toNat)
  case atStart => exact ⟨0, by omega, rfl, HI⟩
  case round =>
    clear HI
    obtain ⟨k, hk, rfl, HK⟩ := hrel
    by_cases hlt : k < ws.length
    · obtain ⟨nm, hnm⟩ : ∃ nm, ws[k]? = some nm := ⟨_, List.getElem?_eq_getElem hlt⟩
      obtain ⟨aa, cc, hv, _, hcells⟩ := HWR2.out _ HK.out.bel
      simp only [Value.slice.injEq] at hv
      obtain ⟨rfl, _, rfl⟩ := hv
      obtain ⟨g, o, rfl, hg, s0⟩ := hcells k nm hnm
      obtain ⟨_, _, _, r3⟩ := rd_cells HK.out.rd
      have hz : nm.size ≤ maxLen := HZ.out nm (List.mem_of_getElem? hnm)
      have hcl := HK.out.clos
      have HNM := Lib.hid hnm
      clear hcells hnm
      go_wp2_with (refine wpList_update_clos _ (by rfl) (.tmp 55) (.tmp 56) (.tmp 58) (by rfl) hcl (by omega) nm false (by rfl) (by rfl) (by rfl) hz ?_; intro w' hcl' hgr)
      go_roundw
      case rel =>
        first
          | exact ⟨k + 1, by omega, rfl, Lib.hid (HK.out.step HNM.out hcl' hgr)⟩
          | ((repeat apply Exists.intro); exact ⟨⟨k + 1, by omega, rfl, Lib.hid (HK.out.step HNM.out hcl' hgr)⟩, rfl⟩)
          | trace_state
      case measure => simp [intOf]; omega
    · obtain rfl : k = ws.length := by omega
      go_wp2_with fail
      go_ret
      exact HK.out.done hwl
end Go.Proofs.YtopbmndjnjnmcaaGreatDoor

/- (F16) -/
/- Package fragment: Read. -/
namespace Go.Proofs.YtopbmndjnjnmcaaGreatDoor
open Go.RowKit Lx Go.Sort Go.Maps

attribute [local go_sem] Oper.semAt_some

theorem clo_nil {ws : List ByteArray} (h : okWords ws = true) : clo ws [] = none := by
  have hw : ∀ s ∈ ws, ¬ s.toList = [] := fun s hs he => by
    obtain ⟨i, hi, rfl⟩ := List.mem_iff_getElem.1 hs
    unfold okWords at h
    simp only [Bool.and_eq_true, List.all_eq_true, List.mem_range] at h
    have h1 := h.2 i hi
    unfold okWordsAt at h1
    simp only [Bool.and_eq_true] at h1
    have h2 := h1.1.1.1
    rw [List.getD_eq_getElem?_getD, List.getElem?_eq_getElem hi, Option.getD_some] at h2
    unfold wordOk at h2
    rw [toList_data] at he
    rw [he] at h2
    have : qKind [] = 0 := by decide +kernel
    rw [this] at h2
    simp at h2
  obtain ⟨l1, l2, l3, l4, l5, l6, l7, l8, l9⟩ := lists9
  unfold clo
  rw [if_neg (by simpa using hw)]
  simp [l1, l2, l3, l4, l5, l6, l7, l8, l9]

set_option maxRecDepth 100000 in
set_option maxHeartbeats 4000000 in
/-- **newReader**, where it refuses -/
theorem newReader_bad (ts : List Tok) (ws : List ByteArray) (vt vw : Value) (w : World) (hr : TokRead w vt ts) (hw : StrRead w vw ws) (he : Env w) (hz : ∀ s ∈ ws, s.size ≤ maxLen) (h1 : okWords ws = false ∨ 6000 < ts.length) :
    Calls Tryz.prog 48 #[vt, vw] w fun e W => e = refuse68 (if okWords ws = false then 1 else 2) 0 ∧ Below w.heap.size w W := by
  have hb0 := ((Below.refl w.heap.size w).alloc (Nat.le_refl _) (.cells #[.int .i64 0, .int .i64 0, .string ⟨#[]⟩, .int .i64 0, .int .i64 0, .string ⟨#[]⟩, .slice none 0 0, .int .i64 0] 97)).alloc (by rw [World.size_alloc]; omega) (.cells #[vt, .int .i64 0, .slice (some ⟨w.heap.size, 0, none⟩) 1 1, .map none] 101)
  have har := areRight_any vw ws _ (he.below hb0) hz (hw.bl hb0)
  have HAR := Lib.hid har
  have HB0 := Lib.hid hb0
  have hk1 := heap_alloc_new (w.alloc (.cells #[.int .i64 0, .int .i64 0, .string ⟨#[]⟩, .int .i64 0, .int .i64 0, .string ⟨#[]⟩, .slice none 0 0, .int .i64 0] 97)) (.cells #[vt, .int .i64 0, .slice (some ⟨w.heap.size, 0, none⟩) 1 1, .map none] 101)
  rw [World.size_alloc] at hk1
  have HK1 := Lib.hid hk1
  obtain ⟨a, c, hvt, ⟨hn, hc⟩, _⟩ := hr
  subst hvt
  obtain ⟨aw, cw, hvw, ⟨hnw, hcw⟩, _⟩ := hw
  subst hvw
  unfold maxLen at hn
  clear har hb0 hz hk1
  obtain ⟨q, hq⟩ : ∃ q, okWords ws = q := ⟨_, rfl⟩
  rw [hq] at h1 HAR ⊢
  clear hq
  cases q
  · go_enter Tryz.func48, Tryz.ntmps48
    go_wp2_with fail
    go_at_call 61
    refine HAR.out.mono ?_
    rintro e W1 ⟨rfl, hb1⟩
    have l1 := (hb1.block (w.heap.size + 1) (by rw [World.size_alloc, World.size_alloc]; omega)).trans HK1.out
    obtain ⟨_, c1, _, _⟩ := rd_cells l1
    have HB1 := Lib.hid (HB0.out.trans (hb1.mono HB0.out.size))
    clear hb1 l1
    go_wp2_with fail
    go_at_call 69
    refine (refuse68_any (w.heap.size + 1) 1 0 _ c1).mono ?_
    rintro e w' ⟨rfl, rfl⟩
    unfold refuse68
    go_wp2_with fail
    exact ⟨rfl, rfl, HB1.out⟩
  · have h6 : 6000 < ts.length := by rcases h1 with h | h; cases h; exact h
    have d1 : decide ((ts.length : Int) > 6000) = true := decide_eq_true (by omega)
    go_enter Tryz.func48, Tryz.ntmps48
    go_wp2_with fail
    go_at_call 61
    refine HAR.out.mono ?_
    rintro e W1 ⟨rfl, hb1⟩
    have l1 := (hb1.block (w.heap.size + 1) (by rw [World.size_alloc, World.size_alloc]; omega)).trans HK1.out
    obtain ⟨_, c1, _, _⟩ := rd_cells l1
    have HB1 := Lib.hid (HB0.out.trans (hb1.mono HB0.out.size))
    clear hb1 l1
    go_wp2_with fail
    go_at_call 69
    refine (refuse68_any (w.heap.size + 1) 2 0 _ c1).mono ?_
    rintro e w' ⟨rfl, rfl⟩
    unfold refuse68
    go_wp2_with fail
    exact ⟨rfl, rfl, HB1.out⟩

theorem assert68_yes (a b : Value) (w : World) : (Instr.typeAssert (.iface 68 (.agg #[a, b])) 20 68 true).run Tryz.prog w = .ok (.tuple #[.agg #[a, b], .bool true]) w := by kernel_rfl
theorem assert68_no (w : World) : (Instr.typeAssert .nilIface 20 68 true).run Tryz.prog w = .ok (.tuple #[.agg #[.int .i64 0, .int .i64 0], .bool false]) w := by kernel_rfl

/-- The results' variables. -/
structure Res3 (B : Nat) (v : Value) (i e : Int) (W : World) : Prop where
  r1 : Boxed W B 25 v
  r2 : Boxed W (B + 1) 3 (.int .i64 i)
  r3 : Boxed W (B + 2) 26 (.int .i64 e)
theorem Res3.bl {B : Nat} {v : Value} {i e : Int} {W W' : World} (h : Res3 B v i e W) (hb : Below W.heap.size W W') : Res3 B v i e W' := ⟨Boxed.bl h.r1 hb, Boxed.bl h.r2 hb, Boxed.bl h.r3 hb⟩
theorem Res3.put {B : Nat} {v : Value} {i e : Int} {W : World} (h : Res3 B v i e W) (v' : Value) (i' e' : Int) :
    Res3 B v' i' e' (((W.setCell ⟨B, 0, none⟩ v').setCell ⟨B + 1, 0, none⟩ (.int .i64 i')).setCell ⟨B + 2, 0, none⟩ (.int .i64 e')) := by
  obtain ⟨h1, h2, h3⟩ := h
  exact ⟨((h1.set v').other (by omega) _).other (by omega) _, ((h2.other (by omega) _).set _).other (by omega) _, ((h3.other (by omega) _).other (by omega) _).set _⟩

set_option maxHeartbeats 4000000 in
theorem catchR_bad (B : Nat) (v1 : Value) (i1 e1 : Int) (er : Nat) (i : Int) (w : World) (h : Res3 B v1 i1 e1 w) :
    CallsD Tryz.prog 47 #[.pointer (some ⟨B, 0, none⟩), .pointer (some ⟨B + 1, 0, none⟩), .pointer (some ⟨B + 2, 0, none⟩)] (.panicking [{ v := .iface 68 (.agg #[.int .i64 er, .int .i64 i]), recovered := false }]) w fun e u' w' =>
      e = .returned (.tuple #[]) ∧ u' = .panicking [{ v := .iface 68 (.agg #[.int .i64 er, .int .i64 i]), recovered := true }] ∧ Res3 B (.slice none 0 0) i er w' ∧ (∀ B', B' ≤ B → B' ≤ w.heap.size → Below B' w w') := by
  obtain ⟨h1, h2, h3⟩ := h
  have c1 := h1.cell
  have c2 := h2.cell
  have c3 := h3.cell
  have f1 := h1.frozen
  have f2 := h2.frozen
  have f3 := h3.frozen
  have k1 := h1.lt
  have k2 := h2.lt
  have k3 := h3.lt
  have hta := assert68_yes (.int .i64 er) (.int .i64 i)
  refine callsD_of_wpS Tryz.func47 rfl fun c₀ cs hu => ?_
  simp only [Tryz.ntmps47, List.size_toArray, List.length_cons, List.length_nil, Nat.reduceAdd, Nat.reduceSub, Array.replicate_succ, Array.replicate_zero, List.push_toArray, List.append_toArray, List.nil_append, List.cons_append]
  apply wpS_seq
  apply wpS_region
  simp [wpOpsS, go_sem, recoverD, hu, Exit.thenS, hta]
  refine wpS_of_wp ?_
  go_wp2
  go_region
  go_wp2
  have g := Res3.put ⟨h1, h2, h3⟩ (.slice none 0 0) i er
  exact ⟨rfl, _, rfl, .tuple #[], by simp [results, Tryz.results47], rfl, rfl, ⟨g.r1.alloc _, g.r2.alloc _, g.r3.alloc _⟩, fun B' h1 h2 => (((((Below.refl B' w).setCell (p := ⟨B, 0, none⟩) h1 _).setCell (p := ⟨B + 1, 0, none⟩) (by show B' ≤ B + 1; omega) _).setCell (p := ⟨B + 2, 0, none⟩) (by show B' ≤ B + 2; omega) _).alloc (by simp only [set_size]; exact h2) _).drew⟩

theorem catchR_idle (p1 p2 p3 : Value) (w : World) :
    CallsD Tryz.prog 47 #[p1, p2, p3] .returning w fun e u' w' => e = .returned (.tuple #[]) ∧ u' = .returning ∧ Below w.heap.size w w' := by
  have hta := assert68_no
  refine callsD_of_wpS Tryz.func47 rfl fun c₀ cs hu => ?_
  simp only [Tryz.ntmps47, List.size_toArray, List.length_cons, List.length_nil, Nat.reduceAdd, Nat.reduceSub, Array.replicate_succ, Array.replicate_zero, List.push_toArray, List.append_toArray, List.nil_append, List.cons_append]
  apply wpS_seq
  apply wpS_region
  simp [wpOpsS, go_sem, recoverD, hu, Exit.thenS, hta]
  refine wpS_of_wp ?_
  go_wp2
  exact ⟨rfl, .returning, by cases c₀; simp_all, .tuple #[], by simp [results, Tryz.results47], rfl, rfl, (Below.refl _ _).alloc (Nat.le_refl _) _⟩
end Go.Proofs.YtopbmndjnjnmcaaGreatDoor

/- (F17) -/
/- Package fragment: Read. -/
namespace Go.Proofs.YtopbmndjnjnmcaaGreatDoor
open Go.RowKit Lx Go.Sort Go.Maps

attribute [local go_sem] Oper.semAt_some

/-- How Read ends. -/
def FrEnd (res : Rd) (w : World) (e : Ending) (W : World) : Prop :=
  Below w.heap.size w W ∧ match res with
  | .ok l => ∃ v, e = .returned (.tuple #[v, .int .i64 0, .int .i64 0]) ∧ FrRead W (fun _ => True) v l
  | .bad er j => e = .returned (.tuple #[.slice none 0 0, .int .i64 j, .int .i64 er])

theorem res3_new (w : World) : Res3 w.heap.size (.slice none 0 0) 0 0 (((w.alloc (.cells #[.slice none 0 0] 25)).alloc (.cells #[.int .i64 0] 3)).alloc (.cells #[.int .i64 0] 26)) := by
  have h0 := heap_alloc_new w (.cells #[.slice none 0 0] 25)
  have h1 := heap_alloc_new (w.alloc (.cells #[.slice none 0 0] 25)) (.cells #[.int .i64 0] 3)
  have h2 := heap_alloc_new ((w.alloc (.cells #[.slice none 0 0] 25)).alloc (.cells #[.int .i64 0] 3)) (.cells #[.int .i64 0] 26)
  simp only [World.size_alloc] at h1 h2
  have b1 := ((Below.refl _ (w.alloc (.cells #[.slice none 0 0] 25))).alloc (Nat.le_refl _) (.cells #[.int .i64 0] 3)).alloc (by simp only [World.size_alloc]; omega) (.cells #[.int .i64 0] 26)
  have b2 := (Below.refl _ ((w.alloc (.cells #[.slice none 0 0] 25)).alloc (.cells #[.int .i64 0] 3))).alloc (Nat.le_refl _) (.cells #[.int .i64 0] 26)
  exact ⟨(b1.block _ (by simp only [World.size_alloc]; omega)).trans h0, (b2.block _ (by simp only [World.size_alloc]; omega)).trans h1, h2⟩

theorem Res3.results {B : Nat} {v : Value} {i e : Int} {W : World} (h : Res3 B v i e W) (T : Array Value) (t1 : T.getD 4 undef = .pointer (some ⟨B, 0, none⟩)) (t2 : T.getD 5 undef = .pointer (some ⟨B + 1, 0, none⟩)) (t3 : T.getD 6 undef = .pointer (some ⟨B + 2, 0, none⟩)) (hv : ∃ x y z, v = .slice x y z) :
    (Go.results Tryz.f15 T).run Tryz.prog W = .ok (.tuple #[v, .int .i64 i, .int .i64 e]) W := by
  obtain ⟨x, y, z, rfl⟩ := hv
  have c1 := h.r1.cell
  have c2 := h.r2.cell
  have c3 := h.r3.cell
  rw [Array.getD_eq_getD_getElem?] at t1 t2 t3
  simp [Go.results, Tryz.results15, go_sem, t1, t2, t3, c1, c2, c3]

theorem Res3.low {B : Nat} {v : Value} {i e : Int} {W W' : World} (h : Res3 B v i e W) (hb : Below (B + 3) W W') : Res3 B v i e W' :=
  ⟨(hb.block _ (by omega)).trans h.r1, (hb.block _ (by omega)).trans h.r2, (hb.block _ (by omega)).trans h.r3⟩

/-- Fragments lie in no block of one cell. -/
def Multi (W : World) (b : Nat) : Prop := ∀ (x : Value) (t : TypeId), W.heap[b]? ≠ some (.cells #[x] t (0, 0))
theorem FrAt.multi {W : World} {S : Nat → Prop} {g o : Nat} {l : List Fr} (h : FrAt W S g o l) : FrAt W (Multi W) g o l := by
  induction h with
  | nil g o => exact .nil g o
  | cons hs hg h0 h1 h2 h3 h4 h5 h6 hm ha _ _ ih1 ih2 =>
    refine .cons (fun x t he => ?_) hg h0 h1 h2 h3 h4 h5 h6 hm ha ih1 ih2
    rw [cell_of_row _ _ _ _ _ _ he] at h1
    simp at h1
theorem FrRead.multi {W : World} {S : Nat → Prop} {v : Value} {l : List Fr} (h : FrRead W S v l) : FrRead W (Multi W) v l := by
  obtain ⟨a, c, g, o, hv, hm, ha, hr⟩ := h
  exact ⟨a, c, g, o, hv, hm, ha, hr.multi⟩

set_option maxRecDepth 100000 in
set_option maxHeartbeats 4000000 in
/-- **Read** -/
theorem fragRead_any (ts : List Tok) (ws : List ByteArray) (vt vw : Value) (w : World) (hr : TokRead w vt ts) (hw : StrRead w vw ws) (he : Env w) (hz : ∀ s ∈ ws, s.size ≤ maxLen) (hzt : ∀ t ∈ ts, t.text.size ≤ maxLen) :
    Calls Tryz.prog 15 #[vt, vw] w fun e W => FrEnd (pRead ts ws) w e W := by
  have hmf : ∀ (fn : Fn) (first cap : Array Value) (w : World), (Instr.makeFunc fn first cap).run Tryz.prog w = .ok (.func fn first cap) w := fun _ _ _ _ => rfl
  have hb0 := (((Below.refl w.heap.size w).alloc (Nat.le_refl _) (.cells #[.slice none 0 0] 25)).alloc (by simp only [World.size_alloc]; omega) (.cells #[.int .i64 0] 3)).alloc (by simp only [World.size_alloc]; omega) (.cells #[.int .i64 0] 26)
  have H0 := Lib.hid (res3_new w)
  have HB0 := Lib.hid hb0
  have HR := Lib.hid (hr.bl hb0)
  have HW := Lib.hid (hw.bl hb0)
  have h6 := he.size
  have HE := Lib.hid (he.below hb0)
  have HZ := Lib.hid hz
  have HZT := Lib.hid hzt
  obtain ⟨res, hres⟩ : ∃ res, pRead ts ws = res := ⟨_, rfl⟩
  rw [hres]
  have HRES := Lib.hid hres
  obtain ⟨ta, tc, hvt, _⟩ := hr
  obtain ⟨wa, wc, hvw, _⟩ := hw
  subst hvt hvw
  clear hb0 he hz hzt hres
  by_cases hbad : okWords ws = false ∨ 6000 < ts.length
  · have hrs := HRES.out
    have hnr := newReader_bad ts ws _ _ _ HR.out HW.out HE.out HZ.out hbad
    obtain ⟨er, her⟩ : ∃ er, (if okWords ws = false then 1 else 2) = er := ⟨_, rfl⟩
    rw [her] at hnr
    have hrs2 : res = .bad er 0 := by
      rw [← hrs, ← her]; unfold pRead
      by_cases h1 : okWords ws = false
      · rw [if_pos h1, if_pos h1]
      · rw [if_neg h1, if_neg h1, if_pos (hbad.resolve_left h1)]
    subst hrs2
    have HNR := Lib.hid hnr
    clear hbad hrs her hnr
    go_enter_defers Tryz.func15, Tryz.ntmps15
    go_wp2_with fail
    go_at_call 48
    refine HNR.out.mono ?_
    rintro e W1 ⟨rfl, hb1⟩
    have H1 := H0.out.bl hb1
    have HB1 := Lib.hid (HB0.out.trans (hb1.mono HB0.out.size))
    have HH1 := Lib.hid H1
    clear hb1 H1
    unfold refuse68
    go_wp2_with fail
    refine leaves_cons (f := 47) (args := #[.pointer (some ⟨w.heap.size, 0, none⟩), .pointer (some ⟨w.heap.size + 1, 0, none⟩), .pointer (some ⟨w.heap.size + 2, 0, none⟩)]) (by simp) (by simp [go_sem]) ?_
    refine (catchR_bad w.heap.size _ _ _ _ 0 _ HH1.out).mono ?_
    rintro e u' W2 ⟨rfl, rfl, h2, hb2⟩
    exact ⟨_, h2.results _ rfl rfl rfl ⟨_, _, _, rfl⟩, HB1.out.trans (hb2 _ (Nat.le_refl _) HB1.out.size), rfl⟩
  · have hok : okWords ws = true := by
      cases h : okWords ws
      · exact absurd (.inl h) hbad
      · rfl
    have hlen : ts.length ≤ 6000 := by
      rcases Nat.lt_or_ge 6000 ts.length with h | h
      · exact absurd (.inr h) hbad
      · exact h
    have hrs := HRES.out
    unfold pRead at hrs
    rw [if_neg (by rw [hok]; simp), if_neg (by omega)] at hrs
    have hnr := newReader_any ts ws _ _ _ HR.out HW.out HE.out HZ.out hok hlen
    have HNR := Lib.hid hnr
    have HRS := Lib.hid hrs
    have HOK := Lib.hid hok
    clear hbad hnr hrs hok
    go_enter_defers Tryz.func15, Tryz.ntmps15
    go_wp2_with fail
    go_at_call 48
    refine HNR.out.mono ?_
    rintro e W1 ⟨hb1, rfl, mb, hrd, hcl⟩
    have hsz : (((w.alloc (.cells #[.slice none 0 0] 25)).alloc (.cells #[.int .i64 0] 3)).alloc (.cells #[.int .i64 0] 26)).heap.size = w.heap.size + 3 := by simp only [World.size_alloc]
    rw [hsz] at hb1 hrd hcl
    have HRD := Lib.hid hrd
    have HCL := Lib.hid hcl
    have HB1 := Lib.hid hb1
    have HB1' : Hid (Below w.heap.size w W1) := Lib.hid (HB0.out.trans (hb1.mono (by omega)))
    have HT : Hid (TokLow (w.heap.size + 3) (.slice ta ts.length tc) ts W1) := Lib.hid fun W hb => HR.out.bl (by rw [hsz]; exact hb1.trans hb)
    have hrdany := read_any ts ws HRD.out rfl HT.out HCL.out (HE.out.below (by rw [hsz]; exact hb1)) (by omega) HZT.out hlen (clo_nil HOK.out)
    rw [HRS.out] at hrdany
    have HRA := Lib.hid hrdany
    clear hb1 hrd hcl hrdany hsz
    go_wp2_with fail
    go_at_call 49
    refine HRA.out.mono ?_
    rintro e W2 hend
    obtain ⟨hb2, hend⟩ := hend
    have H2 := (H0.out.low HB1.out).low hb2
    have HB2 := Lib.hid (HB1'.out.trans (hb2.mono (by omega)))
    cases res with
    | ok l =>
      obtain ⟨v, rfl, hfr⟩ := hend
      obtain ⟨va, vc, rfl⟩ : ∃ a c, v = .slice a l.length c := by obtain ⟨a, c, _, _, h, _⟩ := hfr; exact ⟨a, c, h⟩
      have c1 := H2.r1.cell
      have c2 := H2.r2.cell
      have c3 := H2.r3.cell
      have f1 := H2.r1.frozen
      have f2 := H2.r2.frozen
      have f3 := H2.r3.frozen
      have HF := Lib.hid hfr.multi
      have HH2 := Lib.hid H2
      clear hb2 hfr H2
      go_wp2_with fail
      have h3 := HH2.out.put (.slice va l.length vc) 0 0
      refine leaves_cons (f := 47) (args := #[.pointer (some ⟨w.heap.size, 0, none⟩), .pointer (some ⟨w.heap.size + 1, 0, none⟩), .pointer (some ⟨w.heap.size + 2, 0, none⟩)]) (by simp) (by simp [go_sem]) ?_
      refine (catchR_idle _ _ _ _).mono ?_
      rintro e u' W4 ⟨rfl, rfl, hb4⟩
      have hb3 := (((HB2.out).setCell (p := ⟨w.heap.size, 0, none⟩) (Nat.le_refl _) (.slice va l.length vc)).setCell (p := ⟨w.heap.size + 1, 0, none⟩) (Nat.le_succ _) (.int .i64 0)).setCell (p := ⟨w.heap.size + 2, 0, none⟩) (by show w.heap.size ≤ w.heap.size + 2; omega) (.int .i64 0)
      have hfr3 : FrRead (((W2.setCell ⟨w.heap.size, 0, none⟩ (.slice va l.length vc)).setCell ⟨w.heap.size + 1, 0, none⟩ (.int .i64 0)).setCell ⟨w.heap.size + 2, 0, none⟩ (.int .i64 0)) (fun _ => True) (.slice va l.length vc) l := HF.out.keep fun b hs hlt => by
        have n1 : b ≠ w.heap.size := fun e => hs _ _ (by rw [e]; exact HH2.out.r1)
        have n2 : b ≠ w.heap.size + 1 := fun e => hs _ _ (by rw [e]; exact HH2.out.r2)
        have n3 : b ≠ w.heap.size + 2 := fun e => hs _ _ (by rw [e]; exact HH2.out.r3)
        exact ⟨(set_ne _ _ _ _ n3).trans ((set_ne _ _ _ _ n2).trans (set_ne _ _ _ _ n1)), trivial⟩
      exact ⟨_, (h3.bl hb4).results _ rfl rfl rfl ⟨_, _, _, rfl⟩, hb3.trans (hb4.mono hb3.size), _, rfl, hfr3.bl hb4⟩
    | bad er j =>
      subst hend
      have HH2 := Lib.hid H2
      clear hb2 H2
      unfold refuse68
      go_wp2_with fail
      refine leaves_cons (f := 47) (args := #[.pointer (some ⟨w.heap.size, 0, none⟩), .pointer (some ⟨w.heap.size + 1, 0, none⟩), .pointer (some ⟨w.heap.size + 2, 0, none⟩)]) (by simp) (by simp [go_sem]) ?_
      refine (catchR_bad w.heap.size _ _ _ _ j _ HH2.out).mono ?_
      rintro e u' W3 ⟨rfl, rfl, h3, hb3⟩
      exact ⟨_, h3.results _ rfl rfl rfl ⟨_, _, _, rfl⟩, HB2.out.trans (hb3 _ (Nat.le_refl _) HB2.out.size), rfl⟩
end Go.Proofs.YtopbmndjnjnmcaaGreatDoor
