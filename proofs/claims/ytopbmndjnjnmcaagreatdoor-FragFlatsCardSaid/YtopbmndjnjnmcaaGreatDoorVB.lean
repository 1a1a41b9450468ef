/- Package fragment: what Check of the reference answers, Text, and the law FragFlats. -/
import Derived.Test.YtopbmndjnjnmcaaGreatDoorVA
namespace Go.Proofs.YtopbmndjnjnmcaaGreatDoor
open Go.RowKit Lx
/- (V7) -/
/-- No node of a list closes, and what is no group has nothing inside. -/
def NoCl : List Fr → Prop
  | [] => True
  | .mk t op ks :: r => isCl t = false ∧ (op.toList = [] → ks = []) ∧ NoCl ks ∧ NoCl r
theorem noCl_cons {f : Fr} {r : List Fr} : NoCl (f :: r) ↔ isCl f.tok = false ∧ (f.op.toList = [] → f.kids = []) ∧ NoCl f.kids ∧ NoCl r := by
  cases f; rw [NoCl]; rfl
theorem NoCl.nil : NoCl [] := by rw [NoCl]; trivial
theorem NoCl.app : ∀ {a b : List Fr}, NoCl a → NoCl b → NoCl (a ++ b)
  | [], _, _, hb => hb
  | f :: a, b, ha, hb => by
    obtain ⟨h1, h2, h3, h4⟩ := noCl_cons.1 ha
    rw [List.cons_append]
    exact noCl_cons.2 ⟨h1, h2, h3, NoCl.app h4 hb⟩
section
variable {ts : List Tok} {ws : List ByteArray}
def NcI (s : Rst) : Prop := ∀ g ∈ s.g :: s.stk, NoCl g.kids ∧ isCl g.tok = false
theorem pTake_nci (hc0 : clo ws [] = none) {s s' : Rst} {t : Tok} (ht : ts[s.at_]? = some t) (h : pTake ts ws s = .ok s') (hs : NcI s) : NcI s' := by
  rcases pTake_cases ht h with ⟨_, g2, rest, h1, _, h3, h4, h5⟩ | ⟨hc, _, _, rfl⟩ | ⟨hc, _, rfl⟩
  · unfold NcI at hs ⊢
    rw [h1] at hs
    rw [h3, h4]
    have hop : s.g.op.toList = [] → s.g.kids = [] := fun e => by
      rw [e, hc0] at h5
      rcases h5 with ⟨h, _⟩ | ⟨h, _⟩ <;> cases h
    intro g hg
    obtain ⟨b1, b2⟩ := hs s.g List.mem_cons_self
    rcases List.mem_cons.1 hg with rfl | hg
    · obtain ⟨a1, a2⟩ := hs g2 (List.mem_cons_of_mem _ List.mem_cons_self)
      exact ⟨a1.app (noCl_cons.2 ⟨b2, hop, b1, .nil⟩), a2⟩
    · exact hs g (List.mem_cons_of_mem _ (List.mem_cons_of_mem _ hg))
  · intro g hg
    rcases List.mem_cons.1 hg with rfl | hg
    · exact ⟨.nil, hc⟩
    · exact hs g hg
  · intro g hg
    rcases List.mem_cons.1 hg with rfl | hg
    · obtain ⟨a1, a2⟩ := hs s.g List.mem_cons_self
      exact ⟨a1.app (noCl_cons.2 ⟨hc, fun _ => rfl, .nil, .nil⟩), a2⟩
    · exact hs g (List.mem_cons_of_mem _ hg)
theorem pGo_nci (hc0 : clo ws [] = none) : ∀ {n : Nat} {s s' : Rst}, pGo ts ws n s = .ok s' → NcI s → NcI s'
  | 0, _, _, h, hs => by cases h; exact hs
  | n + 1, s, s', h, hs => by
    simp only [pGo] at h
    split at h
    · rename_i hl
      split at h
      · split at h
        · cases h
        · rename_i s1 hp
          exact pGo_nci hc0 h (fun g hg => pTake_nci hc0 (List.getElem?_eq_getElem hl) hp hs g hg)
      · cases h
    · cases h; exact hs
theorem isCl_zTok : isCl zTok = false := by decide +kernel
/-- What is emitted when nothing is dropped. -/
theorem Run.exact (hc0 : clo ws [] = none) {sf : Rst} : ∀ {n : Nat} {s : Rst}, Run ts ws sf n s → (emit ts ws n s).length + s.at_ = ts.length →
    ∀ p ∈ (emit ts ws n s).zip (ts.drop s.at_), isCl p.1 = false → p.1 = p.2
  | 0, s, h, _ => by
    rw [(h.done h.fuel).2]; intro p hp; simp at hp
  | n + 1, s, h, hl => by
    by_cases hlt : s.at_ < ts.length
    · obtain ⟨t, s1, k, hk, ht, hok, hp, he, hr1⟩ := h.step hc0 hlt
      obtain rfl : n = k := by omega
      obtain ⟨_, _, h3, _, h5, h6⟩ := step_inv hc0 h.inv ht hok hp
      have h7 := (Run.em hc0 hr1).2
      rw [he] at hl ⊢
      rw [List.length_cons] at hl
      have ha : (adv s1).at_ = s1.at_ + 1 := rfl
      rw [ha] at h7
      have hbnd : s1.at_ + 1 ≤ ts.length := by
        rcases pTake_cases ht hp with ⟨_, g2, rest, _, _, _, _, h5⟩ | ⟨_, _, _, rfl⟩ | ⟨_, _, rfl⟩
        · rcases h5 with ⟨_, h⟩ | ⟨_, ⟨_, h⟩ | ⟨names, hd, h⟩⟩
          · omega
          · omega
          · unfold dropN at hd
            have := List.find?_some hd
            simp only [Bool.and_eq_true] at this
            by_cases hz : names.length = 0
            · omega
            · obtain ⟨t9, h9, _⟩ := nextAre_names this.1 (names.length - 1) (by omega)
              have := (List.getElem?_eq_some_iff.1 h9).1
              omega
        · exact hlt
        · exact hlt
      have hat : s1.at_ = s.at_ := by omega
      have ih := Run.exact hc0 hr1 (by rw [ha, hat]; omega)
      rw [ha, hat] at ih
      obtain ⟨hx, hx2⟩ := List.getElem?_eq_some_iff.1 ht
      rw [List.drop_eq_getElem_cons hlt, hx2, List.zip_cons_cons]
      intro p hp
      rcases List.mem_cons.1 hp with rfl | hp
      · intro hc
        have hcc : isCl t = isCl (emTok s t) := by unfold isCl; rw [show t.text = (emTok s t).text from (congrArg Prod.snd h3).symm]
        rw [← hcc] at hc
        show emTok s t = t
        unfold emTok
        rw [if_neg (by rw [hc]; simp)]
      · exact ih p hp
    · rw [(h.done (by omega)).2]; intro p hp; simp at hp
end
theorem alikeF_toks : ∀ (n : Nat) (a l : List Fr), fsz a < n → alikeF true a l = true → (toksU a).length = (toksU l).length ∧
    (NoCl a → (∀ p ∈ (toksU a).zip (toksU l), isCl p.1 = false → p.1 = p.2) → alikeF false l a = true)
  | 0, _, _, h, _ => absurd h (Nat.not_lt_zero _)
  | n + 1, [], [], _, _ => ⟨rfl, fun _ _ => by simp [alikeF]⟩
  | n + 1, [], g :: r2, _, h => by cases g; simp [alikeF] at h
  | n + 1, f :: r, [], _, h => by cases f; simp [alikeF] at h
  | n + 1, f :: r, g :: r2, hn, h => by
    rw [fsz_cons] at hn
    rw [alikeF_cons] at h
    simp only [Bool.and_eq_true, beq_iff_eq] at h
    obtain ⟨h1, h2, h3, h4⟩ := h
    obtain ⟨i1, i2⟩ := alikeF_toks n f.kids g.kids (by omega) h3
    obtain ⟨j1, j2⟩ := alikeF_toks n r r2 (by omega) h4
    have hfl : (tokFU f).length = (tokFU g).length := by
      unfold tokFU
      rw [h2]
      split
      · rfl
      · simp only [List.length_cons, List.length_append, i1, List.length_nil]
    refine ⟨by rw [toksU_cons, toksU_cons, List.length_append, List.length_append, hfl, j1], fun hnc hz => ?_⟩
    obtain ⟨c1, c0, c2, c3⟩ := noCl_cons.1 hnc
    rw [toksU_cons, toksU_cons, List.zip_append hfl] at hz
    have hz2 : ∀ p ∈ (toksU r).zip (toksU r2), isCl p.1 = false → p.1 = p.2 := fun p hp => hz p (List.mem_append_right _ hp)
    have hz1 : ∀ p ∈ (tokFU f).zip (tokFU g), isCl p.1 = false → p.1 = p.2 := fun p hp => hz p (List.mem_append_left _ hp)
    have ht : f.tok = g.tok := by
      refine hz1 (f.tok, g.tok) ?_ c1
      unfold tokFU
      rw [h2]
      split
      · simp
      · rw [List.zip_cons_cons]; exact List.mem_cons_self
    rw [alikeF_cons, j2 c3 hz2]
    have hk : alikeF false g.kids f.kids = true := by
      refine i2 c2 ?_
      by_cases ho : f.op.toList = []
      · rw [c0 ho]; intro p hp; simp [toksU] at hp
      · intro p hp
        refine hz1 p ?_
        unfold tokFU
        rw [if_neg ho, if_neg (by rw [← h2]; exact ho), List.zip_cons_cons, List.zip_append i1]
        exact List.mem_cons_of_mem _ (List.mem_append_left _ hp)
    rw [hk, h2, ht]
    simp [alikeT]
end Go.Proofs.YtopbmndjnjnmcaaGreatDoor
namespace Go.Proofs.YtopbmndjnjnmcaaGreatDoor
open Go.RowKit Lx
/- (V8) -/
theorem alikeF_turn : ∀ (n : Nat) (a l : List Fr), fsz a < n → alikeF false l a = true → alikeF true a l = true
  | 0, _, _, h, _ => absurd h (Nat.not_lt_zero _)
  | n + 1, [], [], _, _ => by rw [alikeF]
  | n + 1, [], g :: r2, _, h => by cases g; simp [alikeF] at h
  | n + 1, f :: r, [], _, h => by cases f; simp [alikeF] at h
  | n + 1, f :: r, g :: r2, hn, h => by
    rw [fsz_cons] at hn
    rw [alikeF_cons] at h ⊢
    unfold alikeT at h ⊢
    simp only [Bool.and_eq_true, beq_iff_eq, Bool.false_or, Bool.true_or] at h ⊢
    obtain ⟨⟨h1, h2, h3, _⟩, h5, h6, h7⟩ := h
    exact ⟨⟨h1.symm, h2.symm, h3.symm, trivial⟩, h5.symm, alikeF_turn n _ _ (by omega) h6, alikeF_turn n _ _ (by omega) h7⟩
theorem check_same {l a : List Fr} {ws : List ByteArray} (h : pRead (toksU l) ws = .ok a) : sameP a l = alikeF false l a := by
  unfold pRead at h
  split at h
  · cases h
  · rename_i hw
    split at h
    · cases h
    · have hok : okWords ws = true := by simpa using hw
      have hc0 := clo_nil hok
      unfold pRead0 at h
      split at h
      · cases h
      · rename_i sf hg
        split at h
        · rename_i hsk
          cases h
          have hsk0 : sf.stk = [] := List.eq_nil_of_length_eq_zero hsk
          have hr : Run (toksU l) ws sf (toksU l).length st0 := ⟨hg, by simp [st0], st0_inv ws⟩
          have e1 := (hr.em hc0).1
          rw [hsk0] at e1
          have e3 : toksU sf.g.kids = emit (toksU l) ws (toksU l).length st0 := by
            have : emL (st0.g :: st0.stk) = [] := by simp [emL, st0, toksU]
            rw [this, List.nil_append] at e1
            exact e1
          have hdl := hr.DL hc0 (by show DL [_]; exact ⟨by show dep [] + 0 ≤ 100; rw [dep]; omega, trivial⟩)
          rw [hsk0] at hdl
          have hdep : dep sf.g.kids ≤ 100 := by have := hdl.1; simpa using this
          have hdp := depthP_dep sf.g.kids
          have hs : sameP sf.g.kids l = alikeF true sf.g.kids l := by unfold sameP; rw [decide_eq_true (by omega)]; rfl
          rw [hs]
          have hnc : NoCl sf.g.kids := (pGo_nci hc0 hg (fun g hg => by
            rcases List.mem_cons.1 hg with rfl | hg
            · exact ⟨.nil, isCl_zTok⟩
            · cases hg) sf.g List.mem_cons_self).1
          cases ha : alikeF true sf.g.kids l with
          | false =>
            cases hf : alikeF false l sf.g.kids with
            | false => rfl
            | true => rw [alikeF_turn (fsz sf.g.kids + 1) _ _ (Nat.lt_succ_self _) hf] at ha; cases ha
          | true =>
            obtain ⟨k1, k2⟩ := alikeF_toks (fsz sf.g.kids + 1) _ _ (Nat.lt_succ_self _) ha
            have hx := hr.exact hc0 (by rw [← e3, k1]; rfl)
            rw [← e3] at hx
            exact (k2 hnc hx).symm
        · cases h
/-- What Check of the reference answers. -/
theorem checkP_ref {l : List Fr} {ws : List ByteArray} (h1 : okWords ws = true) (h2 : depthP l ≤ 100) (h3 : sizeP l ≤ 6000) :
    checkP l ws = match pRead (toksU l) ws with
      | .ok a => if alikeF false l a = true then 0 else 22
      | .bad _ _ => 22 := by
  unfold checkP
  rw [h1, (flatP_U h2 h3).1, if_neg (by simp), if_neg (by omega), if_neg (by omega)]
  cases hp : pRead (toksU l) ws with
  | bad e i => rfl
  | ok a => simp only; rw [check_same hp]
end Go.Proofs.YtopbmndjnjnmcaaGreatDoor
namespace Go.Proofs.YtopbmndjnjnmcaaGreatDoor
open Go.RowKit Lx
/- (V9) -/
attribute [local go_sem] Oper.semAt_some
theorem flatP_len (l : List Fr) : (flatP l).length ≤ 6000 := by
  unfold flatP
  split
  · rename_i h; exact sizeP_le h
  · simp
set_option maxRecDepth 100000 in
set_option maxHeartbeats 4000000 in
/-- **Text** -/
theorem text_any (S : Nat → Prop) (l : List Fr) (v : Value) (w : World) (he : Env w) (hr : FrRead w S v l) (ht : TxtOk l) :
    Calls Tryz.prog 25 #[v] w fun e W => e = .returned (.string ⟨(joinS (flatP l)).toArray⟩) ∧ Below w.heap.size w W := by
  have HE := Lib.hid he
  have HT := Lib.hid (flatP_txt ht)
  have HF := Lib.hid (flat_any S l v w hr)
  have HL := Lib.hid (flatP_len l)
  obtain ⟨va, vc, _, _, rfl, _⟩ := hr
  clear he ht
  go_enter Tryz.func25, Tryz.ntmps25
  go_wp2_with fail
  go_at_call 28
  refine HF.out.mono ?_
  rintro e W1 ⟨ta, tn, tc, rfl, htr, _, hb⟩
  have B1 := Lib.hid hb
  have HJ := Lib.hid (join_tok _ _ HT.out (by have := HL.out; omega) _ (HE.out.below hb) htr)
  clear hb htr
  go_wp2_with fail
  go_at_call 56
  refine HJ.out.mono ?_
  rintro e W2 ⟨rfl, hb⟩
  have B2 := Lib.hid (B1.out.trans (hb.mono B1.out.size))
  clear hb
  go_wp2_with fail
  go_ret
  exact ⟨rfl, B2.out⟩
set_option maxRecDepth 100000 in
set_option maxHeartbeats 4000000 in
/-- **Text** of the reference -/
theorem refText_any (S : Nat → Prop) (l : List Fr) (v : Value) (w : World) (hr : FrRead w S v l) (ht : TxtOk l) :
    Calls Tryz.prog 26 #[v] w fun e W => e = .returned (.string ⟨(joinS (flatP l)).toArray⟩) ∧ Below w.heap.size w W := by
  have HT := Lib.hid (flatP_txt ht)
  have HF := Lib.hid (refFlat_any S l v w hr)
  have HL := Lib.hid (flatP_len l)
  obtain ⟨va, vc, _, _, rfl, _⟩ := hr
  clear ht
  go_enter Tryz.func26, Tryz.ntmps26
  go_wp2_with fail
  go_at_call 29
  refine HF.out.mono ?_
  rintro e W1 ⟨ta, tn, tc, rfl, htr, hb⟩
  have B1 := Lib.hid hb
  have HJ := Lib.hid (refJoin_tok _ _ HT.out (by have := HL.out; omega) _ htr)
  clear hb htr
  go_wp2_with fail
  go_at_call 57
  refine HJ.out.mono ?_
  rintro e W2 ⟨rfl, hb⟩
  have B2 := Lib.hid (B1.out.trans (hb.mono B1.out.size))
  clear hb
  go_wp2_with fail
  go_ret
  exact ⟨rfl, B2.out⟩
end Go.Proofs.YtopbmndjnjnmcaaGreatDoor
namespace Go.Proofs.YtopbmndjnjnmcaaGreatDoor
open Go.RowKit Lx
/- (V10) -/
attribute [local go_sem] Oper.semAt_some
set_option maxRecDepth 100000 in
set_option maxHeartbeats 16000000 in
/-- **Check** of the reference -/
theorem refChk_any (S : Nat → Prop) (l : List Fr) (ws : List ByteArray) (v vw : Value) (w : World) (hr : FrRead w S v l) (hw : StrRead w vw ws) (hwn : ∀ n c, vw = .slice none n c → c = 0) (hz : ∀ s ∈ ws, s.size ≤ maxLen) (ht : TxtOk l) :
    Calls Tryz.prog 31 #[v, vw] w fun e W => e = .returned (.int .i64 (checkP l ws : Nat)) ∧ Below w.heap.size w W := by
  have HR := Lib.hid hr
  have HW := Lib.hid hw
  have HWN := Lib.hid hwn
  have HZ := Lib.hid hz
  have HTX := Lib.hid ht
  obtain ⟨a, c, _, _, rfl, _⟩ := hr
  obtain ⟨wa, wc, rfl, _⟩ := hw
  obtain ⟨res, hres⟩ : ∃ res, checkP l ws = res := ⟨_, rfl⟩
  rw [hres]
  clear hwn hz ht
  cases hok : okWords ws
  · obtain rfl : 1 = res := by rw [← hres]; unfold checkP; rw [hok]; rfl
    have HOK := Lib.hid hok
    clear hres hok
    go_enter Tryz.func31, Tryz.ntmps31
    go_wp2_with fail
    go_at_call 50
    refine (rRight_any _ ws _ HZ.out HW.out).mono ?_
    rintro e W1 ⟨rfl, hb⟩
    rw [HOK.out]
    have B1 := Lib.hid hb
    clear hb
    go_wp2_with fail
    go_ret
    exact ⟨rfl, B1.out⟩
  · have HOK := Lib.hid hok
    by_cases hd : 100 < depthP l
    · obtain rfl : 6 = res := by rw [← hres]; unfold checkP; rw [hok, if_neg (by simp), if_pos hd]
      have h1 : decide ((depthP l : Int) > 100) = true := decide_eq_true (by omega)
      clear hres hok
      go_enter Tryz.func31, Tryz.ntmps31
      go_wp2_with fail
      go_at_call 50
      refine (rRight_any _ ws _ HZ.out HW.out).mono ?_
      rintro e W1 ⟨rfl, hb⟩
      rw [HOK.out]
      have B1 := Lib.hid hb
      clear hb
      go_wp2_with fail
      go_at_call 24
      refine (refDepth_any S l _ _ (HR.out.bl B1.out)).mono ?_
      rintro e W2 ⟨rfl, hb⟩
      have B2 := Lib.hid (B1.out.trans (hb.mono B1.out.size))
      clear hb
      go_wp2_with fail
      go_ret
      exact ⟨rfl, B2.out⟩
    · have h1 : decide ((depthP l : Int) > 100) = false := decide_eq_false (by omega)
      by_cases hs : 6000 < sizeP l
      · obtain rfl : 2 = res := by rw [← hres]; unfold checkP; rw [hok, if_neg (by simp), if_neg hd, if_pos hs]
        have h2 : decide ((sizeP l : Int) > 6000) = true := decide_eq_true (by omega)
        clear hres hok
        go_enter Tryz.func31, Tryz.ntmps31
        go_wp2_with fail
        go_at_call 50
        refine (rRight_any _ ws _ HZ.out HW.out).mono ?_
        rintro e W1 ⟨rfl, hb⟩
        rw [HOK.out]
        have B1 := Lib.hid hb
        clear hb
        go_wp2_with fail
        go_at_call 24
        refine (refDepth_any S l _ _ (HR.out.bl B1.out)).mono ?_
        rintro e W2 ⟨rfl, hb⟩
        have B2 := Lib.hid (B1.out.trans (hb.mono B1.out.size))
        clear hb
        go_wp2_with fail
        go_at_call 22
        refine (refSize_any S l _ _ (HR.out.bl B2.out)).mono ?_
        rintro e W3 ⟨rfl, hb⟩
        have B3 := Lib.hid (B2.out.trans (hb.mono B2.out.size))
        clear hb
        go_wp2_with fail
        go_ret
        exact ⟨rfl, B3.out⟩
      · have h2 : decide ((sizeP l : Int) > 6000) = false := decide_eq_false (by omega)
        rw [checkP_ref hok (by omega) (by omega)] at hres
        obtain ⟨hfl, hul⟩ := flatP_U (l := l) (by omega) (by omega)
        have HRE := Lib.hid hres
        have HUL := Lib.hid hul
        have HTU : Hid (∀ t ∈ toksU l, t.text.size ≤ maxLen) := Lib.hid (by rw [← hfl]; exact flatP_txt HTX.out)
        clear hres hok hfl hul hd hs
        go_enter Tryz.func31, Tryz.ntmps31
        go_wp2_with fail
        go_at_call 50
        refine (rRight_any _ ws _ HZ.out HW.out).mono ?_
        rintro e W1 ⟨rfl, hb⟩
        rw [HOK.out]
        have B1 := Lib.hid hb
        clear hb
        go_wp2_with fail
        go_at_call 24
        refine (refDepth_any S l _ _ (HR.out.bl B1.out)).mono ?_
        rintro e W2 ⟨rfl, hb⟩
        have B2 := Lib.hid (B1.out.trans (hb.mono B1.out.size))
        clear hb
        go_wp2_with fail
        go_at_call 22
        refine (refSize_any S l _ _ (HR.out.bl B2.out)).mono ?_
        rintro e W3 ⟨rfl, hb⟩
        have B3 := Lib.hid (B2.out.trans (hb.mono B2.out.size))
        clear hb
        have HF := Lib.hid (rflat_any W3.heap.size (fsz l + 1) l [] none 0 0 _ W3 (Nat.lt_succ_self _) (by simp only [List.length_nil]; have := HUL.out; omega) (Nat.le_refl _) ((HR.out.bl B3.out).keep fun b _ hlt => ⟨rfl, hlt⟩) (World.ownsRow_nil _ _ _ _))
        go_wp2_with fail
        go_at_call 60
        refine HF.out.mono ?_
        rintro e W4 ⟨a3, n3, c3, rfl, hown, hgr⟩
        rw [List.nil_append] at hown
        have hnn : n3 = (toksU l).length := by obtain ⟨q1, q2, hq⟩ := own_form hown; cases hq; rfl
        have HTR : Hid (TokRead W4 (.slice a3 n3 c3) (toksU l)) := Lib.hid (tok_owns hown rfl (by unfold maxLen; have := HUL.out; omega))
        have B4 := Lib.hid (B3.out.trans ((hgr.below (World.ownsRow_nil W3 W3.heap.size 50 5) (Nat.le_refl _)).mono B3.out.size))
        clear hown hgr HF hnn
        go_wp2_with fail
        go_at_call 16
        refine (rRead_any (toksU l) ws _ _ _ HTR.out (HW.out.bl B4.out) HWN.out HZ.out HTU.out).mono ?_
        rintro e W5 hend
        cases hpr : pRead (toksU l) ws with
        | bad er i =>
          have hne := pRead_ne HTU.out hpr
          obtain ⟨hb, hx⟩ := hend
          rw [hpr] at hx
          obtain rfl := hx
          have B5 := Lib.hid (B4.out.trans (hb.mono B4.out.size))
          obtain rfl : 22 = res := by rw [← HRE.out, hpr]
          have h3 : ((er : Int) != 0) = true := by simp; omega
          have hba := (Below.refl W5.heap.size W5).alloc (Nat.le_refl _) (.cells #[.slice none 0 0, .int .i64 i, .int .i64 er] 30)
          have hX := heap_alloc_new W5 (.cells #[.slice none 0 0, .int .i64 i, .int .i64 er] 30)
          obtain ⟨z0, z1, z2⟩ := got_cells hX
          have B6 := Lib.hid (B5.out.trans (hba.mono B5.out.size))
          clear hb hpr hne hba hX
          go_wp2_with fail
          go_ret
          exact ⟨rfl, B6.out⟩
        | ok l2 =>
          obtain ⟨hb, hx⟩ := hend
          rw [hpr] at hx
          obtain ⟨vb, rfl, hfr⟩ := hx
          have B5 := Lib.hid (B4.out.trans (hb.mono B4.out.size))
          obtain ⟨ba, bn, bc, hvb⟩ : ∃ a n c, vb = .slice a n c := by obtain ⟨a, c, _, _, h, _⟩ := hfr; exact ⟨a, _, c, h⟩
          subst hvb
          have hba := (Below.refl W5.heap.size W5).alloc (Nat.le_refl _) (.cells #[.slice ba bn bc, .int .i64 0, .int .i64 0] 30)
          have hX := heap_alloc_new W5 (.cells #[.slice ba bn bc, .int .i64 0, .int .i64 0] 30)
          obtain ⟨z0, z1, z2⟩ := got_cells hX
          have B6 := Lib.hid (B5.out.trans (hba.mono B5.out.size))
          have HFR := Lib.hid (hfr.bl hba)
          have hre2 := HRE.out
          rw [hpr] at hre2
          simp only at hre2
          have HRE2 := Lib.hid hre2
          clear hb hpr hfr hre2 hba hX
          go_wp2_with fail
          go_at_call 20
          refine (alikeG_any S (fun _ => True) false (fsz l + 1) l l2 _ _ _ (Nat.lt_succ_self _) (HR.out.bl B6.out) HFR.out).mono ?_
          rintro e W7 ⟨rfl, hb⟩
          have B7 := Lib.hid (B6.out.trans (hb.mono B6.out.size))
          clear hb
          cases hsm : alikeF false l l2
          · obtain rfl : 22 = res := by rw [← HRE2.out, hsm]; rfl
            clear hsm
            go_wp2_with fail
            go_ret
            exact ⟨rfl, B7.out⟩
          · obtain rfl : 0 = res := by rw [← HRE2.out, hsm]; rfl
            clear hsm
            go_wp2_with fail
            go_ret
            exact ⟨rfl, B7.out⟩
end Go.Proofs.YtopbmndjnjnmcaaGreatDoor
namespace Go.Proofs.YtopbmndjnjnmcaaGreatDoor
open Go.RowKit Lx
/- (V11) -/
attribute [local go_sem] Oper.semAt_some
set_option maxRecDepth 100000 in
set_option maxHeartbeats 16000000 in
/-- **FragFlats** -/
theorem fragFlats_any (S : Nat → Prop) (l : List Fr) (ws : List ByteArray) (v vw : Value) (w : World) (he : Env w) (hr : FrRead w S v l) (hw : StrRead w vw ws) (hwn : ∀ n c, vw = .slice none n c → c = 0) (hz : ∀ s ∈ ws, s.size ≤ maxLen) (ht : TxtOk l) :
    Calls Tryz.prog 4 #[v, vw] w fun e W => e = .returned (.bool true) ∧ Below w.heap.size w W := by
  have HE := Lib.hid he
  have HR := Lib.hid hr
  have HW := Lib.hid hw
  have HWN := Lib.hid hwn
  have HZ := Lib.hid hz
  have HTX := Lib.hid ht
  obtain ⟨a, c, _, _, rfl, _⟩ := hr
  obtain ⟨wa, wc, rfl, _⟩ := hw
  clear he hwn hz ht
  have e1 : ((sizeP l : Int) != (sizeP l : Int)) = false := by simp
  have e2 : ((depthP l : Int) != (depthP l : Int)) = false := by simp
  have e3 : ((checkP l ws : Int) == (checkP l ws : Int)) = true := by simp
  obtain ⟨J, hJ⟩ : ∃ J, (⟨(joinS (flatP l)).toArray⟩ : ByteArray) = J := ⟨_, rfl⟩
  have HJ := Lib.hid hJ
  clear hJ
  have e4 : (J.toList != J.toList) = false := by simp
  go_enter Tryz.func4, Tryz.ntmps4
  go_wp2_with fail
  go_at_call 14
  refine (sane02_any _ HE.out).mono ?_
  rintro e W1 ⟨rfl, hb⟩
  have B1 := Lib.hid hb
  clear hb
  go_wp2_with fail
  go_at_call 21
  refine (size_any S l _ _ (HR.out.bl B1.out)).mono ?_
  rintro e W2 ⟨rfl, hb⟩
  have B2 := Lib.hid (B1.out.trans (hb.mono B1.out.size))
  clear hb
  go_wp2_with fail
  go_at_call 22
  refine (refSize_any S l _ _ (HR.out.bl B2.out)).mono ?_
  rintro e W3 ⟨rfl, hb⟩
  have B3 := Lib.hid (B2.out.trans (hb.mono B2.out.size))
  clear hb
  go_wp2_with fail
  go_at_call 23
  refine (Depth_any S l _ _ (HR.out.bl B3.out)).mono ?_
  rintro e W4 ⟨rfl, hb⟩
  have B4 := Lib.hid (B3.out.trans (hb.mono B3.out.size))
  clear hb
  go_wp2_with fail
  go_at_call 24
  refine (refDepth_any S l _ _ (HR.out.bl B4.out)).mono ?_
  rintro e W5 ⟨rfl, hb⟩
  have B5 := Lib.hid (B4.out.trans (hb.mono B4.out.size))
  clear hb
  go_wp2_with fail
  go_at_call 25
  refine (text_any S l _ _ (HE.out.below B5.out) (HR.out.bl B5.out) HTX.out).mono ?_
  rintro e W6 ⟨rfl, hb⟩
  rw [HJ.out]
  have B6 := Lib.hid (B5.out.trans (hb.mono B5.out.size))
  clear hb
  go_wp2_with fail
  go_at_call 26
  refine (refText_any S l _ _ (HR.out.bl B6.out) HTX.out).mono ?_
  rintro e W7 ⟨rfl, hb⟩
  rw [HJ.out]
  have B7 := Lib.hid (B6.out.trans (hb.mono B6.out.size))
  clear hb
  go_wp2_with fail
  go_at_call 28
  refine (flat_any S l _ _ (HR.out.bl B7.out)).mono ?_
  rintro e W8 ⟨ta, tn, tc, rfl, htr, _, hb⟩
  have B8 := Lib.hid (B7.out.trans (hb.mono B7.out.size))
  have HT8 := Lib.hid htr
  clear hb htr
  go_wp2_with fail
  go_at_call 29
  refine (refFlat_any S l _ _ (HR.out.bl B8.out)).mono ?_
  rintro e W9 ⟨ua, un, uc, rfl, htr, hb⟩
  have B9 := Lib.hid (B8.out.trans (hb.mono B8.out.size))
  have HU9 := Lib.hid htr
  have HT9 := Lib.hid (HT8.out.bl hb)
  clear hb htr HT8
  go_wp2_with fail
  go_at_call 27
  refine (rTokEq_any _ _ (flatP l) _ HT9.out HU9.out).mono ?_
  rintro e W10 ⟨rfl, hb⟩
  have B10 := Lib.hid (B9.out.trans (hb.mono B9.out.size))
  clear hb HT9 HU9
  go_wp2_with fail
  go_at_call 30
  refine (fragCheck_any S l ws _ _ _ (HE.out.below B10.out) (HR.out.bl B10.out) (HW.out.bl B10.out) HZ.out HTX.out).mono ?_
  rintro e W11 ⟨rfl, hb⟩
  have B11 := Lib.hid (B10.out.trans (hb.mono B10.out.size))
  clear hb
  go_wp2_with fail
  go_at_call 31
  refine (refChk_any S l ws _ _ _ (HR.out.bl B11.out) (HW.out.bl B11.out) HWN.out HZ.out HTX.out).mono ?_
  rintro e W12 ⟨rfl, hb⟩
  have B12 := Lib.hid (B11.out.trans (hb.mono B11.out.size))
  clear hb
  go_wp2_with fail
  go_ret
  exact ⟨rfl, B12.out⟩
end Go.Proofs.YtopbmndjnjnmcaaGreatDoor
