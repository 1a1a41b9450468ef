/- Package fragment: what FragFlats and FragReads want of the texts MD to PT. -/
import Derived.Test.YtopbmndjnjnmcaaGreatDoorMA
import Derived.Test.YtopbmndjnjnmcaaGreatDoorMC
import Derived.Test.YtopbmndjnjnmcaaGreatDoorMB
import Derived.Deep.AppendLies
import Derived.Deep.RegionWith
import Derived.Test.YtopbmndjnjnmcaaGreatDoorOpen
import Derived.BigRegion
import Derived.Laws.StructEq
import Derived.Deep.RegionHeld3
/- Package fragment: texts G6, G7, P4, G8, in one. -/
/- (G6) -/
/- Package fragment: the chapter's examples, reckoned. -/
namespace Go.Proofs.YtopbmndjnjnmcaaGreatDoor
open Go.RowKit Lx

attribute [local go_sem] Oper.semAt_some

def tkOfS (s : ByteArray) (p : Pc) : Tok := ⟨p.kind, qValue p.kind ((s.data.toList.drop p.at_).take p.len), pcText s p, p.at_, 0⟩
/-- The tokens of a text. -/
def scanToks (s : ByteArray) : List Tok := (qScan s.data.toList).map (tkOfS s)

theorem tksCells_at5 (s : ByteArray) : ∀ (ps : List Pc) (k : Nat) (p : Pc) (j : Nat), ps[k]? = some p → j < 5 → (tksCells s ps)[k * 5 + j]? = (tkCells s p)[j]?
  | [], k, p, j, h, _ => by simp at h
  | q :: r, 0, p, j, h, hj => by
    simp at h; subst h
    simp only [tksCells, Nat.zero_mul, Nat.zero_add]
    rw [List.getElem?_append_left (by simp [tkCells]; omega)]
  | q :: r, k + 1, p, j, h, hj => by
    simp only [tksCells]
    rw [List.getElem?_append_right (by simp [tkCells]; omega)]
    have : (k + 1) * 5 + j - (tkCells s q).length = k * 5 + j := by simp [tkCells]; omega
    rw [this]
    exact tksCells_at5 s r k p j (by simpa using h) hj
theorem toks_read {W : World} {base : Nat} {s : ByteArray} {v : Value} (h : W.ownsRow base 50 5 v (qScan s.data.toList).length (tksCells s (qScan s.data.toList))) : TokRead W v (scanToks s) := by
  have hl := scan_length s.data.toList
  have hlen : (scanToks s).length = (qScan s.data.toList).length := List.length_map _
  have hcl := h.1
  rcases h.2 with ⟨rfl, h0⟩ | ⟨g, cap, cur, rfl, hb, hg, hc, hm, hz, ht⟩
  · have hnil : qScan s.data.toList = [] := List.eq_nil_of_length_eq_zero (by
      have : (tksCells s (qScan s.data.toList)).length = 0 := by rw [hcl, h0, Nat.zero_mul]
      rw [tksCells_len] at this; omega)
    refine ⟨none, 0, by rw [hlen, hnil]; rfl, by rw [hlen, hnil]; simp, fun k t hk => ?_⟩
    unfold scanToks at hk
    rw [hnil] at hk
    simp at hk
  · refine ⟨_, cap, by rw [hlen], ⟨by rw [hlen]; unfold maxLen; omega, by rw [hlen]; exact hc⟩, fun k t hk => ⟨g, 0, rfl, (Array.getElem?_eq_some_iff.1 hg).1, ?_⟩⟩
    unfold scanToks at hk
    rw [List.getElem?_map, Option.map_eq_some_iff] at hk
    obtain ⟨p, hp, rfl⟩ := hk
    have hkl : k < (qScan s.data.toList).length := (List.getElem?_eq_some_iff.1 hp).1
    have e : ∀ j, j < 5 → W.cell? ⟨g, 0 + k * 5 + j, none⟩ = (tkCells s p)[j]? := fun j hj => by
      rw [Nat.zero_add, h.cellAt _ (by omega)]
      exact tksCells_at5 s _ k p j hp hj
    exact ⟨e 0 (by omega), e 1 (by omega), e 2 (by omega), e 3 (by omega), e 4 (by omega)⟩

theorem field94_0 (a b c : Value) (w : World) : (Instr.field 94 (.agg #[a, b, c]) 0).run Tryz.prog w = .ok a w := by kernel_rfl
attribute [local go_sem ↓] field94_0
set_option maxHeartbeats 1000000 in
/-- **scan** -/
theorem scan46_any (s : ByteArray) (hm : s.size ≤ maxLen) (w : World) :
    Calls Tryz.prog 46 #[.string s] w fun e W => ∃ v, e = .returned v ∧ TokRead W v (scanToks s) ∧ Below w.heap.size w W := by
  go_enter Tryz.func46, Tryz.ntmps46
  go_wp2_with fail
  go_at_call 68
  refine (refScan_any s hm _).mono ?_
  rintro e W ⟨v, rfl, ho, _, hb⟩
  have HR := Lib.hid (toks_read ho)
  obtain ⟨va, vn, vc, rfl⟩ := ownsRow_slice ho
  clear ho
  go_wp2_with fail
  go_ret
  exact ⟨_, rfl, HR.out, hb⟩

def fx1 : ByteArray := ⟨#[102, 40, 120, 44, 32, 91, 49, 93, 41]⟩
def fx2 : ByteArray := ⟨#[100, 101, 102, 105, 110, 101, 32, 109, 101, 116, 104, 111, 100, 32, 97, 114, 101, 97, 32, 40, 115, 41, 32, 115, 32, 101, 110, 100, 32, 109, 101, 116, 104, 111, 100, 32, 97, 114, 101, 97, 59]⟩
def fx3 : ByteArray := ⟨#[98, 101, 103, 105, 110, 32, 40, 101, 110, 100, 41]⟩
def fx4 : ByteArray := ⟨#[105, 102, 32, 40, 97, 41, 32, 98]⟩
def fx5 : ByteArray := ⟨#[119, 104, 105, 108, 101, 32, 40, 97, 41, 32, 98, 32, 101, 110, 100]⟩
def fx6 : ByteArray := ⟨#[99, 108, 97, 115, 115, 32, 115, 108, 111, 116, 32, 120]⟩
def tWhile : ByteArray := ⟨#[119, 104, 105, 108, 101]⟩
def chk1 (r : Rd) : Bool := match r with
  | .ok [.mk _ o0 _, .mk _ op [.mk _ o1 _, .mk _ o2 _, .mk _ op2 [.mk _ o3 _]]] => (op.toList == [40]) && (op2.toList == [91]) && (o0.toList == []) && (o1.toList == []) && (o2.toList == []) && (o3.toList == [])
  | _ => false
/-- What the first example is. -/
theorem chk1_out {r : Rd} (h : chk1 r = true) : ∃ (a f g : Fr) (k1 k2 : Fr), r = .ok [a, f] ∧ f.op.toList = [40] ∧ f.kids = [k1, k2, g] ∧ g.op.toList = [91] ∧ sizeP [a, f] = 8 ∧ depthP [a, f] = 2 := by
  unfold chk1 at h
  split at h
  · rename_i t0 o0 q0 t op t1 o1 q1 t2 o2 q2 t3 op2 t4 o3 q3
    simp only [Bool.and_eq_true, beq_iff_eq] at h
    obtain ⟨⟨⟨⟨⟨h1, h2⟩, h3⟩, h4⟩, h5⟩, h6⟩ := h
    refine ⟨_, _, _, _, _, rfl, h1, rfl, h2, ?_, ?_⟩
    · unfold sizeP
      simp [toksP, h1, h2, h3, h4, h5, h6]
    · unfold depthP
      simp [depF, h1, h2, h3, h4, h5, h6]
  · cases h
def chk2 (r : Rd) : Bool := match r with
  | .ok [_, .mk _ op [_, _, _], _] => op.toList == [109, 101, 116, 104, 111, 100]
  | _ => false
def chkB (r : Rd) (e : Nat) (i : Int) : Bool := match r with
  | .bad e' i' => (e' == e) && (i' == i)
  | _ => false
def chkN (r : Rd) (n : Nat) : Bool := match r with
  | .ok l => l.length == n
  | _ => false
theorem sx1 : chk1 (pRead (scanToks fx1) []) = true := by decide +kernel
theorem sx2 : chk2 (pRead (scanToks fx2) []) = true := by decide +kernel
theorem sx3 : chkB (pRead (scanToks fx3) []) 20 2 = true := by decide +kernel
theorem sx4 : chkB (pRead (scanToks fx4) []) 21 0 = true := by decide +kernel
theorem sx5 : chkN (pRead (scanToks fx5) [tWhile]) 1 = true := by decide +kernel
theorem sx6 : chkB (pRead (scanToks fx5) []) 20 5 = true := by decide +kernel
theorem sx7 : chkN (pRead (scanToks fx6) []) 3 = true := by decide +kernel
def small (ts : List Tok) : Bool := ts.all fun t => decide (t.text.size ≤ 100)
theorem small_ok {ts : List Tok} (h : small ts = true) : ∀ t ∈ ts, t.text.size ≤ maxLen := fun t ht => by
  unfold small at h
  rw [List.all_eq_true] at h
  have := of_decide_eq_true (h t ht)
  unfold maxLen; omega
theorem sm1 : small (scanToks fx1) = true := by decide +kernel
theorem sm2 : small (scanToks fx2) = true := by decide +kernel
theorem sm3 : small (scanToks fx3) = true := by decide +kernel
theorem sm4 : small (scanToks fx4) = true := by decide +kernel
theorem sm5 : small (scanToks fx5) = true := by decide +kernel
theorem sm6 : small (scanToks fx6) = true := by decide +kernel
end Go.Proofs.YtopbmndjnjnmcaaGreatDoor

/- (G7) -/
/- Package fragment: the chapter's examples hold. -/
namespace Go.Proofs.YtopbmndjnjnmcaaGreatDoor
open Go.RowKit Lx

attribute [local go_sem] Oper.semAt_some

theorem strs_nil (W : World) : StrRead W (.slice none 0 0) [] := ⟨none, 0, rfl, ⟨Nat.zero_le _, Nat.le_refl _⟩, fun k s h => by simp at h⟩
theorem chk2_out {r : Rd} (h : chk2 r = true) : ∃ (a f b k1 k2 k3 : Fr), r = .ok [a, f, b] ∧ f.op.toList = [109, 101, 116, 104, 111, 100] ∧ f.kids = [k1, k2, k3] := by
  unfold chk2 at h
  split at h
  · simp only [beq_iff_eq] at h
    exact ⟨_, _, _, _, _, _, rfl, h, rfl⟩
  · cases h
theorem chkB_out {r : Rd} {e : Nat} {i : Int} (h : chkB r e i = true) : r = .bad e i := by
  unfold chkB at h
  split at h
  · simp only [Bool.and_eq_true, beq_iff_eq] at h
    rw [h.1, h.2]
  · cases h
theorem chkN_out {r : Rd} {n : Nat} (h : chkN r n = true) : ∃ l, r = .ok l ∧ l.length = n := by
  unfold chkN at h
  split at h
  · simp only [beq_iff_eq] at h
    exact ⟨_, rfl, h⟩
  · cases h
/-- Read of a text's tokens, by what it gives. -/
theorem read_ok {ts : List Tok} {ws : List ByteArray} {l : List Fr} {w W : World} {e : Ending} (h : FrEnd (pRead ts ws) w e W) (hl : pRead ts ws = .ok l) : Below w.heap.size w W ∧ ∃ a c, e = .returned (.tuple #[.slice a l.length c, .int .i64 0, .int .i64 0]) ∧ FrRead W (fun _ => True) (.slice a l.length c) l := by
  rw [hl] at h
  obtain ⟨hb, v, rfl, hr⟩ := h
  have hr2 := hr
  obtain ⟨a, c, _, _, rfl, _⟩ := hr2
  exact ⟨hb, a, c, rfl, hr⟩
theorem read_bad {ts : List Tok} {ws : List ByteArray} {er : Nat} {i : Int} {w W : World} {e : Ending} (h : FrEnd (pRead ts ws) w e W) (hl : pRead ts ws = .bad er i) : Below w.heap.size w W ∧ e = .returned (.tuple #[.slice none 0 0, .int .i64 i, .int .i64 er]) := by
  rw [hl] at h; exact h
/-- The k-th fragment's opening and its list of fragments. -/
theorem FrRead.kid {W : World} {S : Nat → Prop} {a : Option Addr} {n c : Nat} {l : List Fr} (h : FrRead W S (.slice a n c) l) {k : Nat} {f : Fr} (hk : l[k]? = some f) : ∃ g o ka kc, a = some ⟨g, o, none⟩ ∧ W.cell? ⟨g, o + k * 7 + 5, none⟩ = some (.string f.op) ∧
    W.cell? ⟨g, o + k * 7 + 6, none⟩ = some (.slice ka f.kids.length kc) ∧ FrRead W S (.slice ka f.kids.length kc) f.kids := by
  obtain ⟨a', c', g, o, hv, _, ha, hat⟩ := h
  obtain ⟨kv, _, _, _, _, _, _, _, h5, h6, hr⟩ := hat.get hk
  have hr2 := hr
  obtain ⟨ka, kc, _, _, rfl, _⟩ := hr2
  simp only [Value.slice.injEq] at hv
  exact ⟨g, o, ka, kc, hv.1.trans (ha (by intro h0; rw [h0] at hk; cases hk)), h5, h6, hr⟩

set_option maxRecDepth 100000 in
set_option maxHeartbeats 8000000 in
theorem sane02_any (w : World) (he : Env w) : Calls Tryz.prog 14 #[] w fun e W => e = .returned (.bool true) ∧ Below w.heap.size w W := by
  have HE := Lib.hid he
  obtain ⟨a1, f1, g1, k11, k12, hra1, hop1, hkd1, hog1, hsz1, hdp1⟩ := chk1_out sx1
  obtain ⟨a2, f2, b2, k21, k22, k23, hra2, hop2, hkd2⟩ := chk2_out sx2
  have hra3 := chkB_out sx3
  have hra4 := chkB_out sx4
  obtain ⟨l5, hra5, hl5⟩ := chkN_out sx5
  have hra6 := chkB_out sx6
  obtain ⟨l7, hra7, hl7⟩ := chkN_out sx7
  have R1 := Lib.hid hra1
  have R2 := Lib.hid hra2
  have R3 := Lib.hid hra3
  have R4 := Lib.hid hra4
  have R5 := Lib.hid hra5
  have R6 := Lib.hid hra6
  have R7 := Lib.hid hra7
  have KD1 := Lib.hid hkd1
  have KD2 := Lib.hid hkd2
  have SZ1 := Lib.hid hsz1
  have DP1 := Lib.hid hdp1
  have L5 := Lib.hid hl5
  have L7 := Lib.hid hl7
  clear he hra1 hra2 hra3 hra4 hra5 hra6 hra7 hkd1 hkd2 hsz1 hdp1 hl5 hl7
  go_enter Tryz.func14, Tryz.ntmps14
  go_wp2_with fail
  go_at_call 46
  refine (scan46_any fx1 (by decide) _).mono ?_
  rintro e W1 ⟨v1, rfl, hr1, hb1⟩
  have HT1 := Lib.hid hr1
  have B1 := Lib.hid hb1
  have E1 := Lib.hid (HE.out.below hb1)
  clear hr1 hb1
  go_wp2_with fail
  go_at_call 15
  refine (fragRead_any (scanToks fx1) [] v1 _ _ HT1.out (strs_nil _) E1.out (by simp) (small_ok sm1)).mono ?_
  rintro e W2 hend
  obtain ⟨hb2, va, ca, rfl, hfa⟩ := read_ok hend R1.out
  have FA := Lib.hid hfa
  have B2 := Lib.hid (B1.out.trans (hb2.mono B1.out.size))
  have E2 := Lib.hid (E1.out.below hb2)
  clear hend hb2 hfa
  go_wp2_with fail
  go_at_call 46
  refine (scan46_any fx2 (by decide) _).mono ?_
  rintro e W3 ⟨v3, rfl, hr3, hb3⟩
  have HT3 := Lib.hid hr3
  have B3 := Lib.hid (B2.out.trans (hb3.mono B2.out.size))
  have E3 := Lib.hid (E2.out.below hb3)
  have FA3 := Lib.hid (FA.out.bl hb3)
  clear hr3 hb3
  go_wp2_with fail
  go_at_call 15
  refine (fragRead_any (scanToks fx2) [] v3 _ _ HT3.out (strs_nil _) E3.out (by simp) (small_ok sm2)).mono ?_
  rintro e W4 hend
  obtain ⟨hb4, vb, cb, rfl, hfb⟩ := read_ok hend R2.out
  obtain ⟨gb, ob, kb, kcb, hvb, cb5, cb6, hkb⟩ := hfb.kid (k := 1) rfl
  subst hvb
  rw [KD2.out] at cb6
  have B4 := Lib.hid (B3.out.trans (hb4.mono B3.out.size))
  have E4 := Lib.hid (E3.out.below hb4)
  have FA4 := Lib.hid (FA3.out.bl hb4)
  have FB4 := Lib.hid hfb
  clear hend hb4 hfb hkb
  simp only [List.length_cons, List.length_nil, Nat.zero_add, Nat.reduceAdd, Nat.one_mul] at cb5 cb6 ⊢
  go_wp2_with fail
  go_at_call 46
  refine (scan46_any fx3 (by decide) _).mono ?_
  rintro e W5 ⟨v5, rfl, hr, hb⟩
  have HT5 := Lib.hid hr
  have B5 := Lib.hid (B4.out.trans (hb.mono B4.out.size))
  have E5 := Lib.hid (E4.out.below hb)
  have FA5 := Lib.hid (FA4.out.bl hb)
  have FB5 := Lib.hid (FB4.out.bl hb)
  clear hr hb
  go_wp2_with fail
  go_at_call 15
  refine (fragRead_any (scanToks fx3) [] v5 _ _ HT5.out (strs_nil _) E5.out (by simp) (small_ok sm3)).mono ?_
  rintro e W6 hend
  obtain ⟨hb, rfl⟩ := read_bad hend R3.out
  have B6 := Lib.hid (B5.out.trans (hb.mono B5.out.size))
  have E6 := Lib.hid (E5.out.below hb)
  have FA6 := Lib.hid (FA5.out.bl hb)
  have FB6 := Lib.hid (FB5.out.bl hb)
  clear hend hb
  go_wp2_with fail
  go_at_call 46
  refine (scan46_any fx4 (by decide) _).mono ?_
  rintro e W7 ⟨v7, rfl, hr, hb⟩
  have HT7 := Lib.hid hr
  have B7 := Lib.hid (B6.out.trans (hb.mono B6.out.size))
  have E7 := Lib.hid (E6.out.below hb)
  have FA7 := Lib.hid (FA6.out.bl hb)
  have FB7 := Lib.hid (FB6.out.bl hb)
  clear hr hb
  go_wp2_with fail
  go_at_call 15
  refine (fragRead_any (scanToks fx4) [] v7 _ _ HT7.out (strs_nil _) E7.out (by simp) (small_ok sm4)).mono ?_
  rintro e W8 hend
  obtain ⟨hb, rfl⟩ := read_bad hend R4.out
  have B8 := Lib.hid (B7.out.trans (hb.mono B7.out.size))
  have E8 := Lib.hid (E7.out.below hb)
  have FA8 := Lib.hid (FA7.out.bl hb)
  have FB8 := Lib.hid (FB7.out.bl hb)
  clear hend hb
  go_wp2_with fail
  go_at_call 46
  refine (scan46_any fx5 (by decide) _).mono ?_
  rintro e W9 ⟨v9, rfl, hr, hb⟩
  have HT9 := Lib.hid hr
  have B9 := Lib.hid (B8.out.trans (hb.mono B8.out.size))
  have E9 := Lib.hid (E8.out.below hb)
  have FA9 := Lib.hid (FA8.out.bl hb)
  have FB9 := Lib.hid (FB8.out.bl hb)
  clear hr hb
  go_wp2_with fail
  have ba := (Below.refl W9.heap.size W9).alloc (Nat.le_refl _) (.cells ([tWhile].map Value.string).toArray 9)
  go_at_call 15
  refine (fragRead_any (scanToks fx5) [tWhile] v9 _ _ (HT9.out.bl ba) (strs_new W9 [tWhile] (by simp)) (E9.out.below ba) (fun s hs => by rw [List.mem_singleton.1 hs]; decide) (small_ok sm5)).mono ?_
  rintro e W10 hend
  obtain ⟨hb, v5, c5, rfl, hf5⟩ := read_ok hend R5.out
  have bb := ba.trans (hb.mono ba.size)
  have B10 := Lib.hid (B9.out.trans (bb.mono B9.out.size))
  have E10 := Lib.hid ((E9.out.below ba).below hb)
  have FA10 := Lib.hid ((FA9.out.bl ba).bl hb)
  have FB10 := Lib.hid ((FB9.out.bl ba).bl hb)
  rw [L5.out]
  clear hend hb ba bb hf5
  go_wp2_with fail
  go_at_call 46
  refine (scan46_any fx5 (by decide) _).mono ?_
  rintro e W11 ⟨v11, rfl, hr, hb⟩
  have HT11 := Lib.hid hr
  have B11 := Lib.hid (B10.out.trans (hb.mono B10.out.size))
  have E11 := Lib.hid (E10.out.below hb)
  have FA11 := Lib.hid (FA10.out.bl hb)
  have FB11 := Lib.hid (FB10.out.bl hb)
  clear hr hb
  go_wp2_with fail
  go_at_call 15
  refine (fragRead_any (scanToks fx5) [] v11 _ _ HT11.out (strs_nil _) E11.out (by simp) (small_ok sm5)).mono ?_
  rintro e W12 hend
  obtain ⟨hb, rfl⟩ := read_bad hend R6.out
  have B12 := Lib.hid (B11.out.trans (hb.mono B11.out.size))
  have E12 := Lib.hid (E11.out.below hb)
  have FA12 := Lib.hid (FA11.out.bl hb)
  have FB12 := Lib.hid (FB11.out.bl hb)
  clear hend hb
  obtain ⟨ga, oa, kka, kca, hva, ca5, ca6, hka⟩ := FA12.out.kid (k := 1) rfl
  subst hva
  rw [KD1.out] at ca6 hka
  obtain ⟨gk, ok, kkk, kck, hvk, ck5, _, _⟩ := hka.kid (k := 2) rfl
  subst hvk
  obtain ⟨gb', ob', kb', kcb', hvb, db5, _, _⟩ := FB12.out.kid (k := 1) rfl
  simp only [Option.some.injEq, Addr.mk.injEq, and_true] at hvb
  obtain ⟨rfl, rfl⟩ := hvb
  simp only [List.length_cons, List.length_nil, Nat.zero_add, Nat.reduceAdd, Nat.one_mul, Nat.reduceMul] at ca5 ca6 ck5 db5
  clear cb5 cb6 hka
  go_wp2_with fail
  go_at_call 46
  refine (scan46_any fx6 (by decide) _).mono ?_
  rintro e W13 ⟨v13, rfl, hr, hb⟩
  have HT13 := Lib.hid hr
  have B13 := Lib.hid (B12.out.trans (hb.mono B12.out.size))
  have E13 := Lib.hid (E12.out.below hb)
  have FA13 := Lib.hid (FA12.out.bl hb)
  clear hr hb ca5 ca6 ck5 db5
  go_wp2_with fail
  go_at_call 15
  refine (fragRead_any (scanToks fx6) [] v13 _ _ HT13.out (strs_nil _) E13.out (by simp) (small_ok sm6)).mono ?_
  rintro e W14 hend
  obtain ⟨hb, v7, c7, rfl, hf7⟩ := read_ok hend R7.out
  have B14 := Lib.hid (B13.out.trans (hb.mono B13.out.size))
  have FA14 := Lib.hid (FA13.out.bl hb)
  rw [L7.out]
  clear hend hb hf7
  go_wp2_with fail
  go_at_call 21
  refine (size_any _ [a1, f1] _ _ FA14.out).mono ?_
  rintro e W15 ⟨rfl, hb⟩
  rw [SZ1.out]
  have B15 := Lib.hid (B14.out.trans (hb.mono B14.out.size))
  have FA15 := Lib.hid (FA14.out.bl hb)
  clear hb
  go_wp2_with fail
  go_at_call 23
  refine (Depth_any _ [a1, f1] _ _ FA15.out).mono ?_
  rintro e W16 ⟨rfl, hb⟩
  rw [DP1.out]
  have B16 := Lib.hid (B15.out.trans (hb.mono B15.out.size))
  clear hb
  go_wp2_with fail
  go_ret
  exact ⟨rfl, B16.out⟩
end Go.Proofs.YtopbmndjnjnmcaaGreatDoor

/- (P4) -/
/- Package fragment: errors are at tokens. -/
namespace Go.Proofs.YtopbmndjnjnmcaaGreatDoor
open Go.RowKit Lx Go.Sort
section
variable {ts : List Tok} {ws : List ByteArray} {e : Nat} {i : Int}
end
end Go.Proofs.YtopbmndjnjnmcaaGreatDoor

/- (G8) -/
/- Package fragment: the walk of FragPrefix. -/
namespace Go.Proofs.YtopbmndjnjnmcaaGreatDoor
open Go.RowKit Lx

attribute [local go_sem] Oper.semAt_some

def toksC : List Tok → List Value
  | [] => []
  | t :: r => (tokC t).toList ++ toksC r
theorem toksC_app : ∀ (a b : List Tok), toksC (a ++ b) = toksC a ++ toksC b
  | [], b => rfl
  | t :: a, b => by simp only [List.cons_append, toksC, toksC_app a b, List.append_assoc]
theorem toksC_at : ∀ (l : List Tok) (k : Nat) (t : Tok) (j : Nat), l[k]? = some t → j < 5 → (toksC l)[k * 5 + j]? = (tokC t)[j]?
  | [], k, t, j, h, _ => by simp at h
  | q :: r, 0, t, j, h, hj => by
    simp at h; subst h
    simp only [toksC, Nat.zero_mul, Nat.zero_add]
    rw [List.getElem?_append_left (by simp [tokC]; omega)]
    simp
  | q :: r, k + 1, t, j, h, hj => by
    simp only [toksC]
    rw [List.getElem?_append_right (by simp [tokC]; omega)]
    have : (k + 1) * 5 + j - (tokC q).toList.length = k * 5 + j := by simp [tokC]; omega
    rw [this]
    exact toksC_at r k t j (by simpa using h) hj
theorem tok_owns {W : World} {base : Nat} {v : Value} {ts : List Tok} {n : Nat} (h : W.ownsRow base 50 5 v n (toksC ts)) (hn : n = ts.length) (hm : ts.length ≤ maxLen) : TokRead W v ts := by
  subst hn
  rcases h.2 with ⟨rfl, h0⟩ | ⟨g, cap, cur, rfl, hb, hg, hc, hm', hz, ht⟩
  · have hnil : ts = [] := List.eq_nil_of_length_eq_zero h0
    subst hnil
    exact ⟨none, 0, rfl, by simp, fun k t hk => by simp at hk⟩
  · refine ⟨_, cap, rfl, ⟨hm, hc⟩, fun k t hk => ⟨g, 0, rfl, (Array.getElem?_eq_some_iff.1 hg).1, ?_⟩⟩
    have hkl : k < ts.length := (List.getElem?_eq_some_iff.1 hk).1
    have e : ∀ j, j < 5 → W.cell? ⟨g, 0 + k * 5 + j, none⟩ = (tokC t)[j]? := fun j hj => by
      rw [Nat.zero_add, h.cellAt _ (by omega)]
      exact toksC_at ts k t j hk hj
    exact ⟨e 0 (by omega), e 1 (by omega), e 2 (by omega), e 3 (by omega), e 4 (by omega)⟩
theorem owns_cap {W : World} {base e size n cap g : Nat} {xs : List Value} (h : W.ownsRow base e size (.slice (some ⟨g, 0, none⟩) n cap) n xs) : n ≤ cap := by
  rcases h.2 with ⟨h, _⟩ | ⟨g', cap', cur, h, _, _, hc, _⟩
  · cases h
  · cases h; exact hc
theorem info50z : (Tryz.prog.info? 50).map (fun i => (i.zero, i.size, i.bytes)) = some (some (.agg #[.int .i64 0, .int .i64 0, .string ⟨#[]⟩, .int .i64 0, .int .i64 0]), 5, 48) := by kernel_rfl

end Go.Proofs.YtopbmndjnjnmcaaGreatDoor

/- Package fragment's reference: Alike of two lists that are equal but for offsets and marks. -/
namespace Go.Proofs.YtopbmndjnjnmcaaGreatDoor
open Go.RowKit Lx Go.Sort

attribute [local go_sem] Oper.semAt_some

theorem block_lt {w : World} {a : Addr} {v : Value} (h : w.cell? a = some v) : a.block < w.heap.size := by
  rcases Nat.lt_or_ge a.block w.heap.size with h' | h'
  · exact h'
  · unfold World.cell? at h; rw [Array.getElem?_eq_none h'] at h; cases h

end Go.Proofs.YtopbmndjnjnmcaaGreatDoor

/- Package fragment: the walk of FragMarks. -/
namespace Go.Proofs.YtopbmndjnjnmcaaGreatDoor
open Go.RowKit Lx

attribute [local go_sem] Oper.semAt_some

theorem own_base {w : World} {base : Nat} {e : TypeId} {size : Nat} {v : Value} {n : Nat} {xs : List Value} (h : w.ownsRow base e size v n xs) {r : Nat} (hr : v.ownBlock = some r) : base ≤ r := by
  rcases h.2 with ⟨rfl, _⟩ | ⟨g, cap, cur, rfl, hb, _⟩
  · cases hr
  · obtain rfl : g = r := Option.some.inj hr
    exact hb
end Go.Proofs.YtopbmndjnjnmcaaGreatDoor

/- Package fragment: texts P6, P7, OF, S1, S2, S3, S4, in one. -/
/- (P6) -/
/- Package fragment: what Same, Flat and Check answer, as functions on lists; a further word that stands nowhere changes nothing. -/
namespace Go.Proofs.YtopbmndjnjnmcaaGreatDoor
open Go.RowKit Lx Go.Sort

/-- Whether two tokens are equal; loose: offsets and marks do not matter. -/
def alikeT (loose : Bool) (x y : Tok) : Bool := (x.kind == y.kind) && ((x.num == y.num) && ((x.text.toList == y.text.toList) && (loose || ((x.at_ == y.at_) && (x.mark == y.mark)))))
/-- Whether two lists of fragments are equal. -/
def alikeF (loose : Bool) : List Fr → List Fr → Bool
  | [], [] => true
  | .mk t o ks :: r, .mk t2 o2 ks2 :: r2 => alikeT loose t t2 && ((o.toList == o2.toList) && (alikeF loose ks ks2 && alikeF loose r r2))
  | _, _ => false
theorem alikeF_cons (loose : Bool) (f g : Fr) (r r2 : List Fr) : alikeF loose (f :: r) (g :: r2) = (alikeT loose f.tok g.tok && ((f.op.toList == g.op.toList) && (alikeF loose f.kids g.kids && alikeF loose r r2))) := by
  cases f; cases g; rw [alikeF]; rfl
theorem alikeF_len (loose : Bool) : ∀ (l l2 : List Fr), l.length ≠ l2.length → alikeF loose l l2 = false
  | [], [], h => absurd rfl h
  | [], g :: r2, _ => by cases g; simp [alikeF]
  | f :: r, [], _ => by cases f; simp [alikeF]
  | f :: r, g :: r2, h => by
    rw [alikeF_cons, alikeF_len loose r r2 (by simpa using h)]
    simp
theorem alikeF_drop (loose : Bool) {l l2 : List Fr} {k : Nat} {f g : Fr} (h : l[k]? = some f) (h2 : l2[k]? = some g) : alikeF loose (l.drop k) (l2.drop k) = (alikeT loose f.tok g.tok && ((f.op.toList == g.op.toList) && (alikeF loose f.kids g.kids && alikeF loose (l.drop (k + 1)) (l2.drop (k + 1))))) := by
  obtain ⟨a1, a2⟩ := List.getElem?_eq_some_iff.1 h
  obtain ⟨b1, b2⟩ := List.getElem?_eq_some_iff.1 h2
  rw [List.drop_eq_getElem_cons a1, List.drop_eq_getElem_cons b1, a2, b2, alikeF_cons]

def sameP (l l2 : List Fr) : Bool := decide (depthP l ≤ 100) && alikeF true l l2
def fitsP (l : List Fr) : Bool := decide (depthP l ≤ 100) && decide (sizeP l ≤ 6000)
def flatP (l : List Fr) : List Tok := if fitsP l = true then toksP 1 l else []
/-- What Check answers. -/
def checkP (l : List Fr) (ws : List ByteArray) : Nat :=
  if okWords ws = false then 1 else if 100 < depthP l then 6 else if 6000 < sizeP l then 2 else
    match pRead (flatP l) ws with
    | .ok l2 => if sameP l2 l = true then 0 else 22
    | .bad _ _ => 22
section
variable {ts : List Tok} {ws : List ByteArray} {x : ByteArray}
/-- No open group has this opening. -/
def NoOp (x : ByteArray) (s : Rst) : Prop := ∀ g ∈ s.g :: s.stk, g.op.toList ≠ x.toList
theorem NoOp.same {s s' : Rst} (h : NoOp x s) (h1 : s'.g = s.g) (h2 : s'.stk = s.stk) : NoOp x s' := by unfold NoOp; rw [h1, h2]; exact h
end
end Go.Proofs.YtopbmndjnjnmcaaGreatDoor

/- (P7) -/
/- The pure reader's errors have numbers; what Check answers, by what Read gives. -/
namespace Go.Proofs.YtopbmndjnjnmcaaGreatDoor
open Go.RowKit Lx

section
variable {ts : List Tok} {ws : List ByteArray} {e : Nat} {i : Int}
theorem pDrop_ne : ∀ {names : List ByteArray} {s : Rst}, nextAre ts s.at_ names = true → pDrop ts names.length s = .bad e i → e ≠ 0
  | [], _, _, h => by cases h
  | nm :: r, s, hn, h => by
    simp only [nextAre, Bool.and_eq_true] at hn
    obtain ⟨h1, h2⟩ := hn
    simp only [List.length_cons, pDrop] at h
    cases ht : ts[s.at_ + 1]? with
    | none => rw [ht] at h1; cases h1
    | some t =>
      rw [ht] at h
      simp only at h
      split at h
      · exact pDrop_ne (s := { s with at_ := s.at_ + 1 }) h2 h
      · cases h; decide
theorem pEnd_ne {s : Rst} (hlt : s.at_ < ts.length) (hs : s.stk ≠ []) (h : pEnd ts s = .bad e i) : e ≠ 0 := by
  unfold pEnd at h
  rw [List.getElem?_eq_getElem hlt] at h
  cases hk : s.stk with
  | nil => exact absurd hk hs
  | cons g2 rest =>
    rw [hk] at h
    simp only at h
    split at h
    · cases h; decide
    · cases h
theorem pTake_ne {s : Rst} (hlt : s.at_ < ts.length) (hO : Ops s) (hc : clo ws [] = none) (h : pTake ts ws s = .bad e i) : e ≠ 0 := by
  have hst : clo ws s.g.op.toList ≠ none → s.stk ≠ [] := fun h1 h2 => h1 (by rw [hO.base h2, (by decide +kernel : (⟨#[]⟩ : ByteArray).toList = [])]; exact hc)
  unfold pTake at h
  rw [List.getElem?_eq_getElem hlt] at h
  simp only at h
  split at h
  · split at h
    · cases h; decide
    · rename_i hcl
      exact pEnd_ne hlt (hst (by rw [hcl]; simp)) h
    · rename_i hcl
      unfold pNamed at h
      split at h
      · rename_i he
        cases h
        exact pEnd_ne hlt (hst (by rw [hcl]; simp)) he
      · rename_i s1 he
        split at h
        · rename_i names hf
          have := List.find?_some hf
          simp only [Bool.and_eq_true] at this
          exact pDrop_ne (s := s1) (by rw [pEnd_ok he]; exact this.1) h
        · cases h
  · split at h
    · split at h
      · cases h; decide
      · cases h
    · cases h
theorem pGo_ne (hc : clo ws [] = none) (hz : ∀ t ∈ ts, t.text.size ≤ maxLen) : ∀ {n : Nat} {s : Rst}, Ops s → pGo ts ws n s = .bad e i → e ≠ 0
  | 0, _, _, h => by cases h
  | n + 1, s, hO, h => by
    simp only [pGo] at h
    split at h
    · rename_i hlt
      split at h
      · split at h
        · rename_i hp
          cases h
          exact pTake_ne hlt hO hc hp
        · rename_i s' hp
          exact pGo_ne hc hz (s := { s' with at_ := s'.at_ + 1 }) ((pTake_ops hp hO hz).at rfl rfl) h
      · cases h; decide
    · cases h
theorem pRead_ne (hz : ∀ t ∈ ts, t.text.size ≤ maxLen) (h : pRead ts ws = .bad e i) : e ≠ 0 := by
  unfold pRead at h
  split at h
  · cases h; decide
  · rename_i hw
    split at h
    · cases h; decide
    · unfold pRead0 at h
      split at h
      · rename_i hg
        cases h
        exact pGo_ne (clo_nil (by simpa using hw)) hz st0_ops hg
      · split at h
        · cases h
        · cases h; decide
end
end Go.Proofs.YtopbmndjnjnmcaaGreatDoor

/- (OF) -/
/- Arguments that are slices of fragments, opened. -/
namespace Go.Proofs.YtopbmndjnjnmcaaGreatDoor
open Go.ChangeShapes Go.WideShapes Go.ChangeAt Go.RowKit Lx

theorem c52 : Tryz.prog.cellsOf 52 = 7 := by kernel_rfl
theorem c25 : Tryz.prog.cellsOf 25 = 1 := by kernel_rfl
instance : Inhabited Fr := ⟨.mk default ByteArray.empty []⟩

/-- All texts in fragments. -/
def txts : List Fr → List ByteArray
  | [] => []
  | .mk t op ks :: r => t.text :: op :: (txts ks ++ txts r)
def TxtOk (l : List Fr) : Prop := ∀ s ∈ txts l, s.size ≤ maxLen
theorem txts_cons (f : Fr) (r : List Fr) : txts (f :: r) = f.tok.text :: f.op :: (txts f.kids ++ txts r) := by cases f; rw [txts]; rfl
theorem TxtOk.nil : TxtOk [] := fun s h => by simp [txts] at h
theorem txtOk_cons {f : Fr} {r : List Fr} : TxtOk (f :: r) ↔ f.tok.text.size ≤ maxLen ∧ f.op.size ≤ maxLen ∧ TxtOk f.kids ∧ TxtOk r := by
  unfold TxtOk
  rw [txts_cons]
  simp only [List.mem_cons, List.mem_append]
  constructor
  · intro h
    exact ⟨h _ (.inl rfl), h _ (.inr (.inl rfl)), fun s hs => h s (.inr (.inr (.inl hs))), fun s hs => h s (.inr (.inr (.inr hs)))⟩
  · rintro ⟨h1, h2, h3, h4⟩ s (rfl | rfl | hs | hs)
    · exact h1
    · exact h2
    · exact h3 s hs
    · exact h4 s hs
theorem txtOk_of : ∀ {l : List Fr}, (∀ f ∈ l, f.tok.text.size ≤ maxLen ∧ f.op.size ≤ maxLen ∧ TxtOk f.kids) → TxtOk l
  | [], _ => .nil
  | f :: _, h => txtOk_cons.2 ⟨(h f List.mem_cons_self).1, (h f List.mem_cons_self).2.1, (h f List.mem_cons_self).2.2, txtOk_of fun g hg => h g (List.mem_cons_of_mem _ hg)⟩
theorem closeTok_size (t : Tok) (op : ByteArray) : (closeTok t op).text.size ≤ maxLen := by
  unfold closeTok
  split
  · exact (by decide : (bs1 41).size ≤ maxLen)
  · split
    · exact (by decide : (bs1 93).size ≤ maxLen)
    · split
      · exact (by decide : (bs1 125).size ≤ maxLen)
      · exact (by decide : tEnd.size ≤ maxLen)
theorem fsz_cons (f : Fr) (r : List Fr) : fsz (f :: r) = 1 + fsz f.kids + fsz r := by cases f; rw [fsz]; rfl
theorem toksP_txt : ∀ (n d : Nat) (l : List Fr), fsz l < n → TxtOk l → ∀ t ∈ toksP d l, t.text.size ≤ maxLen
  | 0, _, _, h, _, _, _ => absurd h (Nat.not_lt_zero _)
  | n + 1, d, [], _, _, t, ht => by simp [toksP] at ht
  | n + 1, d, f :: r, hn, h, t, ht => by
    obtain ⟨h1, h2, h3, h4⟩ := txtOk_cons.1 h
    rw [fsz_cons] at hn
    rw [toksP_cons] at ht
    unfold tokF at ht
    rcases List.mem_append.1 ht with ht | ht
    · by_cases ho : f.op.toList = []
      · rw [if_pos ho] at ht
        obtain rfl := List.mem_singleton.1 ht; exact h1
      · rw [if_neg ho] at ht
        by_cases hd : d ≤ 100
        · rw [if_pos hd] at ht
          rcases List.mem_cons.1 ht with rfl | ht
          · exact h1
          · rcases List.mem_append.1 ht with ht | ht
            · exact toksP_txt n (d + 1) f.kids (by omega) h3 t ht
            · obtain rfl := List.mem_singleton.1 ht; exact closeTok_size _ _
        · rw [if_neg hd] at ht
          cases ht
    · exact toksP_txt n d r (by omega) h4 t ht

/-- Fragments that lie in memory, by what is at each index. -/
theorem FrAt.of {W : World} {g : Nat} (hg : g < W.heap.size) : ∀ {l : List Fr} {o : Nat}, (∀ k f, l[k]? = some f → ∃ kv, (∀ j, j < 7 → W.cell? ⟨g, o + k * 7 + j, none⟩ = (frC f.tok f.op kv)[j]?) ∧ FrRead W (fun _ => True) kv f.kids) → FrAt W (fun _ => True) g o l
  | [], _, _ => .nil _ _
  | .mk t op ks :: l, o, h => by
    obtain ⟨kv, hc, a, c, g', o', hv, hm, ha, hr⟩ := h 0 _ rfl
    simp only [Fr.kids] at hv hm ha hr
    subst hv
    simp only [Nat.zero_mul, Nat.add_zero, Fr.tok, Fr.op] at hc
    refine .cons trivial hg (hc 0 (by omega)) (hc 1 (by omega)) (hc 2 (by omega)) (hc 3 (by omega)) (hc 4 (by omega)) (hc 5 (by omega)) (hc 6 (by omega)) hm ha hr (FrAt.of hg fun k f hk => ?_)
    obtain ⟨kv, h1, h2⟩ := h (k + 1) f (by simpa using hk)
    exact ⟨kv, fun j hj => by rw [show o + 7 + k * 7 + j = o + (k + 1) * 7 + j by omega]; exact h1 j hj, h2⟩

variable {H : Type} {enc : TypeId × Value → H}

set_option maxRecDepth 100000 in
/-- A slice of fragments, by its fuel. -/
theorem open_frs {W : World} : ∀ (fuel : Nat) (cs : List Value) (x : DataW H × List MemPlace), DataW.trod enc Tryz.prog W 0 (fun _ => true) true fuel 25 cs = some x →
    ∃ (a : Option Addr) (len cap : Nat) (l : List Fr), cs = [.slice a len cap] ∧ FrRead W (fun _ => True) (.slice a len cap) l ∧ TxtOk l ∧ (a = none → cap = 0) ∧ ((x.1 = .nil ∧ l = []) ∨ ∃ elems spare, x.1 = .slice elems spare ∧ elems.length = l.length) := by
  intro fuel
  induction fuel using Nat.strongRecOn with
  | ind fuel ih =>
    intro cs x h
    rcases DataW.trod_slice Tryz.underlying25 h with ⟨rfl, rfl⟩ | ⟨a, len, cap, elems, rest, n, rfl, rfl, rfl, _, hl, hm, hel, hx, _, _⟩
    · exact ⟨none, 0, 0, [], rfl, .nil _ _ _ _, .nil, fun _ => rfl, .inl ⟨rfl, rfl⟩⟩
    · rw [c52] at hx
      obtain ⟨T, hT⟩ := Go.Deep.choose_lt (α := Fr) (n := len) (p := fun i f => (∃ kv, W.cells? 0 (a.add (i * 7)) 7 = some (frC f.tok f.op kv) ∧ FrRead W (fun _ => True) kv f.kids) ∧ f.tok.text.size ≤ maxLen ∧ f.op.size ≤ maxLen ∧ TxtOk f.kids) (fun i hi => by
        have h1 := hx i hi
        rw [List.getElem?_eq_getElem (by omega)] at h1
        obtain ⟨cs', h2, h3⟩ := Option.bind_eq_some_iff.1 h1
        obtain ⟨_, hlen, _⟩ := World.cells?_some h2
        obtain ⟨xs, k, rfl, _, _, hxl, hf⟩ := DataW.trod_struct Tryz.underlying52 h3
        match cs', hlen, xs, hxl with
        | [v0, v1, v2, v3, v4, v5, v6], _, [y0, y1, y2], _ =>
          have e0 := hf 0 _ rfl
          have e1 := hf 1 _ rfl
          have e2 := hf 2 _ rfl
          simp [c50, c25, cells9] at e0 e1 e2
          obtain ⟨t, ht, htz⟩ := open_tok (by rfl) e0
          obtain ⟨op, hop, _, hoz⟩ := DataW.trod_string Tryz.underlying9 e1
          obtain ⟨ka, kn, kc, ks, hks, hkr, hkt, _, _⟩ := ih k (by omega) _ _ e2
          simp only [tokC, List.cons.injEq, and_true] at ht hop hks
          obtain ⟨rfl, rfl, rfl, rfl, rfl⟩ := ht
          subst hop hks
          exact ⟨.mk t op ks, ⟨_, h2, hkr⟩, htz, hoz, hkt⟩)
      have hlt : ((List.range len).map T).length = len := by simp
      refine ⟨some a, len, cap, (List.range len).map T, rfl, ?_, txtOk_of fun f hf => ?_, (fun h => by cases h), .inr ⟨_, _, rfl, by simp [hel]⟩⟩
      · rcases Nat.eq_zero_or_pos len with rfl | hpos
        · exact ⟨some a, cap, 0, 0, rfl, ⟨Nat.zero_le _, Nat.zero_le _⟩, fun h => absurd rfl h, .nil _ _⟩
        · obtain ⟨⟨kv0, h0, _⟩, _⟩ := hT 0 hpos
          obtain ⟨_, _, hc0⟩ := World.cells?_some h0
          have z0 := hc0 0 (by omega)
          rw [Go.Deep.add_add] at z0
          have z1 := block_of_cell (z0.trans rfl)
          have hadd := fun i => cell_add (z0.trans rfl) i
          obtain ⟨ea, _⟩ := hadd 0
          refine ⟨some a, cap, a.block, a.off, by rw [hlt], ⟨by rw [hlt]; omega, by rw [hlt]; exact hl⟩, fun _ => congrArg some ea, FrAt.of (by rw [ea] at z1; simpa [Addr.add] using z1) fun k f hk => ?_⟩
          obtain ⟨hi, he⟩ := List.getElem?_eq_some_iff.1 hk
          have hkl : k < len := by simpa using hi
          have ht : T k = f := by simpa using he
          subst ht
          obtain ⟨⟨kv, h1, h2⟩, _⟩ := hT k hkl
          obtain ⟨_, _, hc⟩ := World.cells?_some h1
          refine ⟨kv, fun j hj => ?_, h2⟩
          have := hc j hj
          rw [Go.Deep.add_add, (hadd _).2] at this
          rw [Nat.add_assoc]; exact this
      · obtain ⟨i, hi, rfl⟩ := List.mem_map.1 hf
        exact (hT i (List.mem_range.1 hi)).2

set_option maxRecDepth 100000 in
/-- A slice of fragments. -/
theorem open_frags {W : World} {v : Value} {base : Nat} {d : DataW H} {p : List MemPlace} (hv : Value.okWide Tryz.prog W .any base 25 v) (h : DataW.Trod enc Tryz.prog W 0 (fun _ => true) true 25 v d p) :
    ∃ l : List Fr, FrRead W (fun _ => True) v l ∧ TxtOk l ∧ (∀ n c, v = .slice none n c → c = 0) ∧ ((d = .nil ∧ l = []) ∨ ∃ elems spare, d = .slice elems spare ∧ elems.length = l.length) := by
  obtain ⟨a0, len, cap, rfl⟩ := okWide_slice Tryz.underlying25 hv
  obtain ⟨fuel, hf⟩ := h
  obtain ⟨a, n, c, l, hcs, hr, ht, hz, hd⟩ := open_frs fuel _ _ hf
  simp [Value.cells] at hcs
  obtain ⟨rfl, rfl, rfl⟩ := hcs
  exact ⟨l, hr, ht, fun n c h => by cases h; exact hz rfl, hd⟩
end Go.Proofs.YtopbmndjnjnmcaaGreatDoor

/- (S1) -/
/- Package fragment: same. -/
namespace Go.Proofs.YtopbmndjnjnmcaaGreatDoor
open Go.RowKit Lx Go.Sort

attribute [local go_sem] Oper.semAt_some
/-- Whether two tokens are equal but for offsets and marks. -/
def tokSame (k n : Int) (x : ByteArray) (k' n' : Int) (x' : ByteArray) : Bool := (k == k') && ((n == n') && (x.toList == x'.toList))
theorem tokSame_alike (t t' : Tok) : tokSame t.kind t.num t.text t'.kind t'.num t'.text = alikeT true t t' := by
  unfold tokSame alikeT
  simp
theorem guard50s : Tryz.prog.eqGuardType Tryz.prog.depth 50 = false := by kernel_rfl
theorem held50s : Tryz.prog.stoodInHeld 50 = false := by kernel_rfl
theorem fields50s : Tryz.prog.underlying 50 = some (.struct (Tryz.prog.fieldsOf 50)) := by kernel_rfl
theorem tks_guard (op : BinOp) (x y : Operand) (xs ys : Array Value) (w : World) : (eqGuard op 50 x y (.agg xs) (.agg ys)).run Tryz.prog w = .ok () w := run_eqGuard_agg w op 50 x y xs ys guard50s
theorem tks_eql (w : World) (k n k' n' a m : Int) (x x' : ByteArray) : (Go.binOp .eql 50 (.agg #[.int .i64 k, .int .i64 n, .string x, .int .i64 a, .int .i64 m]) (.agg #[.int .i64 k', .int .i64 n', .string x', .int .i64 a, .int .i64 m])).run Tryz.prog w = .ok (.bool (tokSame k n x k' n' x')) w := by
  rw [run_eql_struct, run_equalIn_struct w 9999 50 _ _ fields50s held50s]
  unfold tokSame
  cases h1 : (k == k') <;> cases h2 : (n == n') <;> cases h3 : (x.toList == x'.toList) <;> simp [go_sem, h1, h2, h3]
attribute [local go_sem ↓] tks_eql tks_guard

set_option maxRecDepth 100000 in
set_option maxHeartbeats 4000000 in
/-- **same's function** -/
theorem same1_any (t t2 : Tok) (op op2 : ByteArray) (kv kv2 : Value) (res : Bool) (w : World)
    (hv : ∃ a n c, kv = .slice a n c) (hv2 : ∃ a n c, kv2 = .slice a n c)
    (ih : ∀ W, Below w.heap.size w W → Calls Tryz.prog 62 #[kv, kv2] W fun e W' => e = .returned (.bool res) ∧ Below W.heap.size W W') :
    Calls Tryz.prog 93 #[.agg (frC t op kv).toArray, .agg (frC t2 op2 kv2).toArray] w fun e W => e = .returned (.bool (alikeT true t t2 && ((op.toList == op2.toList) && res))) ∧ Below w.heap.size w W := by
  have IH := Lib.hid ih
  clear ih
  obtain ⟨va, vn, vc, rfl⟩ := hv
  obtain ⟨ua, un, uc, rfl⟩ := hv2
  rw [← tokSame_alike]
  unfold frC
  obtain ⟨b, hb⟩ : ∃ b, tokSame t.kind t.num t.text t2.kind t2.num t2.text = b := ⟨_, rfl⟩
  rw [hb]
  have HBL := Lib.hid ((((Below.refl w.heap.size w).alloc (Nat.le_refl _) (.cells #[.int .i64 t.kind, .int .i64 t.num, .string t.text, .int .i64 t2.at_, .int .i64 t2.mark, .string op, .slice va vn vc] 52)).alloc (by rw [World.size_alloc]; omega) (.cells #[.int .i64 t2.kind, .int .i64 t2.num, .string t2.text, .int .i64 t2.at_, .int .i64 t2.mark, .string op2, .slice ua un uc] 52)).drew)
  cases e1 : (op.toList == op2.toList)
  · go_enter Tryz.func93, Tryz.ntmps93
    go_wp2_with fail
    go_region
    go_wp2_with fail
    go_ret
    exact ⟨by cases b <;> rfl, HBL.out⟩
  · cases b
    · go_enter Tryz.func93, Tryz.ntmps93
      go_wp2_with fail
      go_region
      go_wp2_with fail
      go_ret
      exact ⟨rfl, HBL.out⟩
    · go_enter Tryz.func93, Tryz.ntmps93
      go_wp2_with fail
      go_region
      go_wp2_with fail
      go_at_call 62
      refine (IH.out _ HBL.out).mono ?_
      rintro e W5 ⟨rfl, hb5⟩
      have B5 := Lib.hid (HBL.out.trans (hb5.mono HBL.out.size))
      clear hb5
      go_wp2_with fail
      go_ret
      exact ⟨rfl, B5.out⟩

set_option maxRecDepth 100000 in
set_option maxHeartbeats 8000000 in
/-- **slices.EqualFunc** of fragments, by same's function -/
theorem eqf_any (S S2 : Nat → Prop) (l l2 : List Fr) (v v2 : Value) (w : World) (hr : FrRead w S v l) (hr2 : FrRead w S2 v2 l2)
    (ih : ∀ (k : Nat) (f g : Fr) (kv kv2 : Value) (W : World), l[k]? = some f → l2[k]? = some g → FrRead W S kv f.kids → FrRead W S2 kv2 g.kids → Calls Tryz.prog 62 #[kv, kv2] W fun e W' => e = .returned (.bool (alikeF true f.kids g.kids)) ∧ Below W.heap.size W W') :
    Calls Tryz.prog 92 #[v, v2, .func (.func 93) #[] #[]] w fun e W => e = .returned (.bool (alikeF true l l2)) ∧ Below w.heap.size w W := by
  have IH := Lib.hid ih
  obtain ⟨va, vc, vg, vo, rfl, ⟨hm1, hm2⟩, ha, hat⟩ := hr
  obtain ⟨ua, uc, ug, uo, rfl, ⟨hu1, hu2⟩, hua, huat⟩ := hr2
  have HAT := Lib.hid hat
  have HA := Lib.hid ha
  have HUT := Lib.hid huat
  have HU := Lib.hid hua
  unfold maxLen at hm1 hu1
  obtain ⟨res, hres⟩ : ∃ res, alikeF true l l2 = res := ⟨_, rfl⟩
  rw [hres]
  have HRS := Lib.hid hres
  clear hat ha huat hua hres ih
  go_enter Tryz.func92, Tryz.ntmps92
  by_cases hlen : l.length = l2.length
  case neg =>
    have e1 : ((l.length : Int) == (l2.length : Int)) = false := by simp; omega
    have e2 : ((l.length : Int) != (l2.length : Int)) = true := by simp; omega
    obtain rfl : false = res := (alikeF_len true l l2 hlen).symm.trans HRS.out
    clear hlen
    go_wp2_with fail
    go_ret
    exact ⟨rfl, Below.refl _ _⟩
  rw [← hlen] at hu1 hu2 ⊢
  have HL := Lib.hid hlen
  clear hlen
  go_wp2_with fail
  go_loopw [17] (fun x wr => ∃ (k : Nat), k ≤ l.length ∧ x = .int .i64 k ∧ Hid (alikeF true (l.drop k) (l2.drop k) = res) ∧ Hid (Below w.heap.size w wr)) (fun x _ => l.length - (intOf x).toNat)
  case atStart => exact ⟨0, by omega, rfl, Lib.hid HRS.out, Lib.hid (Below.refl _ _)⟩
  case round =>
    obtain ⟨k, hk, rfl, HN, HB⟩ := hrel
    by_cases hlt : k < l.length
    · obtain ⟨f, hf⟩ : ∃ f, l[k]? = some f := ⟨_, List.getElem?_eq_getElem hlt⟩
      obtain ⟨g, hg2⟩ : ∃ g, l2[k]? = some g := ⟨_, List.getElem?_eq_getElem (by rw [← HL.out]; exact hlt)⟩
      have hva : va = some ⟨vg, vo, none⟩ := HA.out (by intro h; rw [h] at hlt; simp at hlt)
      have hua : ua = some ⟨ug, uo, none⟩ := HU.out (by intro h; rw [h] at hg2; simp at hg2)
      subst hva hua
      obtain ⟨kv, hs, hg, c0, c1, c2, c3, c4, c5, c6, hkr⟩ := HAT.out.get hf
      obtain ⟨kv2, hs2, hgu, d0, d1, d2, d3, d4, d5, d6, hkr2⟩ := HUT.out.get hg2
      have hst := HN.out
      rw [alikeF_drop true hf hg2] at hst
      have hb := HB.out
      have m0 := (hb.cell (p := ⟨vg, vo + k * 7, none⟩) hg).trans c0
      have m1 := (hb.cell (p := ⟨vg, vo + k * 7 + 1, none⟩) hg).trans c1
      have m2 := (hb.cell (p := ⟨vg, vo + k * 7 + 2, none⟩) hg).trans c2
      have m3 := (hb.cell (p := ⟨vg, vo + k * 7 + 3, none⟩) hg).trans c3
      have m4 := (hb.cell (p := ⟨vg, vo + k * 7 + 4, none⟩) hg).trans c4
      have m5 := (hb.cell (p := ⟨vg, vo + k * 7 + 5, none⟩) hg).trans c5
      have m6 := (hb.cell (p := ⟨vg, vo + k * 7 + 6, none⟩) hg).trans c6
      have h1 := (Below.refl wr.heap.size wr).alloc (Nat.le_refl _) (.cells #[.int .i64 f.tok.kind, .int .i64 f.tok.num, .string f.tok.text, .int .i64 f.tok.at_, .int .i64 f.tok.mark, .string f.op, kv] 52)
      have b1 := hb.trans (h1.mono hb.size)
      have n0 := (b1.cell (p := ⟨ug, uo + k * 7, none⟩) hgu).trans d0
      have n1 := (b1.cell (p := ⟨ug, uo + k * 7 + 1, none⟩) hgu).trans d1
      have n2 := (b1.cell (p := ⟨ug, uo + k * 7 + 2, none⟩) hgu).trans d2
      have n3 := (b1.cell (p := ⟨ug, uo + k * 7 + 3, none⟩) hgu).trans d3
      have n4 := (b1.cell (p := ⟨ug, uo + k * 7 + 4, none⟩) hgu).trans d4
      have n5 := (b1.cell (p := ⟨ug, uo + k * 7 + 5, none⟩) hgu).trans d5
      have n6 := (b1.cell (p := ⟨ug, uo + k * 7 + 6, none⟩) hgu).trans d6
      have h2 := (Below.refl _ (wr.alloc (.cells #[.int .i64 f.tok.kind, .int .i64 f.tok.num, .string f.tok.text, .int .i64 f.tok.at_, .int .i64 f.tok.mark, .string f.op, kv] 52))).alloc (Nat.le_refl _) (.cells #[.int .i64 g.tok.kind, .int .i64 g.tok.num, .string g.tok.text, .int .i64 g.tok.at_, .int .i64 g.tok.mark, .string g.op, kv2] 52)
      have b2 := b1.trans (h2.mono b1.size)
      have hkv : ∃ a n c, kv = .slice a n c := by obtain ⟨a, c, _, _, h, _⟩ := hkr; exact ⟨a, _, c, h⟩
      have hkv2 : ∃ a n c, kv2 = .slice a n c := by obtain ⟨a, c, _, _, h, _⟩ := hkr2; exact ⟨a, _, c, h⟩
      have hc := same1_any f.tok g.tok f.op g.op kv kv2 (alikeF true f.kids g.kids) _ hkv hkv2 (fun W hb => IH.out k f g kv kv2 W hf hg2 (hkr.bl (b2.trans (hb.mono b2.size))) (hkr2.bl (b2.trans (hb.mono b2.size))))
      unfold frC at hc
      have HC := Lib.hid hc
      have B2 := Lib.hid b2
      have k1 : (k : Int) < (l.length : Int) := by omega
      obtain ⟨one, hone⟩ : ∃ one, (alikeT true f.tok g.tok && ((f.op.toList == g.op.toList) && alikeF true f.kids g.kids)) = one := ⟨_, rfl⟩
      rw [hone] at HC
      have hst2 : (one && alikeF true (l.drop (k + 1)) (l2.drop (k + 1))) = res := by rw [← hst, ← hone]; simp only [Bool.and_assoc]
      have HST := Lib.hid hst2
      obtain ⟨va2, vn2, vc2, rfl⟩ := hkv
      obtain ⟨ua2, un2, uc2, rfl⟩ := hkv2
      clear c0 c1 c2 c3 c4 c5 c6 d0 d1 d2 d3 d4 d5 d6 hs hs2 hkr hkr2 h1 h2 hb b1 b2 hf hg2 hst hone hst2 hc
      go_wp2_with fail
      go_at_call 93
      refine HC.out.mono ?_
      rintro e W5 ⟨rfl, hb5⟩
      have B5 := Lib.hid (B2.out.trans (hb5.mono B2.out.size))
      clear hb5 m0 m1 m2 m3 m4 m5 m6 n0 n1 n2 n3 n4 n5 n6
      cases one
      · obtain rfl : false = res := HST.out
        go_wp2_with fail
        go_ret
        exact ⟨rfl, B5.out⟩
      · have HF : Hid (alikeF true (l.drop (k + 1)) (l2.drop (k + 1)) = res) := Lib.hid (by have := HST.out; rwa [Bool.true_and] at this)
        go_wp2_with fail
        go_roundw
        case rel => exact ⟨k + 1, by omega, rfl, HF, B5⟩
        case measure => simp [intOf]; omega
    · obtain rfl : k = l.length := by omega
      have hst := HN.out
      rw [List.drop_length, HL.out, List.drop_length, alikeF] at hst
      subst hst
      go_wp2_with fail
      go_ret
      exact ⟨rfl, HB.out⟩

set_option maxRecDepth 100000 in
/-- **same** -/
theorem same_any (S S2 : Nat → Prop) : ∀ (n : Nat) (l l2 : List Fr) (v v2 : Value) (w : World), fsz l < n → FrRead w S v l → FrRead w S2 v2 l2 →
    Calls Tryz.prog 62 #[v, v2] w fun e W => e = .returned (.bool (alikeF true l l2)) ∧ Below w.heap.size w W := by
  intro n
  induction n with
  | zero => intro l l2 v v2 w h; omega
  | succ n ih =>
    intro l l2 v v2 w hn hr hr2
    have hq := eqf_any S S2 l l2 v v2 w hr hr2 (fun k f g kv kv2 W hf hg h1 h2 => ih f.kids g.kids kv kv2 W (by have := fsz_kids hf; omega) h1 h2)
    have HQ := Lib.hid hq
    obtain ⟨a, c, _, _, rfl, _⟩ := hr
    obtain ⟨a2, c2, _, _, rfl, _⟩ := hr2
    clear hq ih
    go_enter Tryz.func62, Tryz.ntmps62
    go_wp2_with fail
    go_at_call 92
    refine HQ.out.mono ?_
    rintro e W5 ⟨rfl, hb5⟩
    go_wp2_with fail
    go_ret
    exact ⟨rfl, hb5⟩
end Go.Proofs.YtopbmndjnjnmcaaGreatDoor

/- (S2) -/
/- Package fragment: the range over tokens, where each round knows that what has come so far and its token begin the list. -/
namespace Go.Proofs.YtopbmndjnjnmcaaGreatDoor
open Go.RowKit Lx Go.Sort

attribute [local go_sem] Oper.semAt_some

set_option maxRecDepth 100000 in
set_option maxHeartbeats 8000000 in
/-- **pass**, where the round knows what is still to come -/
theorem pass2_any (lb : Nat) (tk : List Tok) (J X : List Tok → World → Prop) (w0 : World) (S : Nat → Prop) (hJ1 : ∀ pre W, J pre W → Below w0.heap.size w0 W) (hJ2 : ∀ pre W W', J pre W → Below W.heap.size W W' → J pre W')
    (hY : ∀ pre t W, (∃ r, tk = pre ++ t :: r) → J pre W → YieldAt Fence.wide 0 Tryz.prog lb #[TokV t] W fun e W' => ((e = .returned (.bool true) ∧ J (pre ++ [t]) W') ∨ (e = .returned (.bool false) ∧ X (pre ++ [t]) W')) ∧ Keep52 W W') :
    ∀ (n : Nat) (l : List Fr) (d : Nat) (v : Value) (pre : List Tok) (W : World), fsz l < n → d ≤ 200 → (∃ r, tk = pre ++ (toksP d l ++ r)) → FrRead w0 S v l → J pre W →
      CallsIn Fence.wide 1 Tryz.prog 84 #[v, .int .i64 d, .func (.yield lb) #[] #[]] W (PassEnd pre (toksP d l) J X W) := by
  intro n
  induction n with
  | zero => intro l d v pre W h; omega
  | succ n ih =>
    intro l d v pre W hn hd hpx hr hj
    have HPX := Lib.hid hpx
    clear hpx
    have HR := Lib.hid hr
    obtain ⟨va, vc, vg, vo, rfl, hm, ha, hat⟩ := hr
    have HAT := Lib.hid hat
    have HA := Lib.hid ha
    have HJ := Lib.hid hj
    obtain ⟨hm1, hm2⟩ := hm
    unfold maxLen at hm1
    clear hat hj ha
    refine callsIn_of_wp Tryz.func84 rfl trivial ?_ rfl
    simp only [Tryz.ntmps84, List.size_toArray, List.length_cons, List.length_nil, Nat.reduceAdd, Nat.reduceSub, Array.replicate_succ, Array.replicate_zero, List.push_toArray, List.append_toArray, List.nil_append, List.cons_append]
    gi_wp2
    gi_loopw [11] (fun x wr => ∃ k : Nat, k ≤ l.length ∧ x = .int .i64 k ∧ Hid (J (pre ++ toksP d (l.take k)) wr) ∧ Hid (Keep52 W wr)) (fun x _ => l.length - (intOf x).toNat)
    case atStart => exact ⟨0, by omega, rfl, Lib.hid (by simpa [toksP] using HJ.out), Lib.hid fun _ _ h => h⟩
    case round =>
      clear HJ
      obtain ⟨k, hk, rfl, HJ, HKP⟩ := hrel
      by_cases hlt : k < l.length
      · obtain ⟨f, hf⟩ : ∃ f, l[k]? = some f := ⟨_, List.getElem?_eq_getElem hlt⟩
        have hva : va = some ⟨vg, vo, none⟩ := HA.out (by intro h; rw [h] at hlt; simp at hlt)
        subst hva
        obtain ⟨kv, hs, hg, c0, c1, c2, c3, c4, c5, c6, hkr⟩ := HAT.out.get hf
        obtain ⟨ka, kc, hkv⟩ : ∃ a c, kv = .slice a f.kids.length c := by obtain ⟨a, c, _, _, h, _⟩ := hkr; exact ⟨a, c, h⟩
        subst hkv
        have hbl := hJ1 _ _ HJ.out
        have m0 := (hbl.cell (p := ⟨vg, vo + k * 7, none⟩) hg).trans c0
        have m1 := (hbl.cell (p := ⟨vg, vo + k * 7 + 1, none⟩) hg).trans c1
        have m2 := (hbl.cell (p := ⟨vg, vo + k * 7 + 2, none⟩) hg).trans c2
        have m3 := (hbl.cell (p := ⟨vg, vo + k * 7 + 3, none⟩) hg).trans c3
        have m4 := (hbl.cell (p := ⟨vg, vo + k * 7 + 4, none⟩) hg).trans c4
        have m5 := (hbl.cell (p := ⟨vg, vo + k * 7 + 5, none⟩) hg).trans c5
        have m6 := (hbl.cell (p := ⟨vg, vo + k * 7 + 6, none⟩) hg).trans c6
        have HKR := Lib.hid hkr
        have HF := Lib.hid hf
        have HTK := Lib.hid (toksP_take d hf)
        have hfn : fsz f.kids < n := by have := fsz_kids hf; omega
        have k1 : (k : Int) < (l.length : Int) := by omega
        clear c0 c1 c2 c3 c4 c5 c6 hkr hf hbl hs
        have hsp := toksP_split d HF.out
        have hba := (Below.refl wr.heap.size wr).alloc (Nat.le_refl _) (.cells (frC f.tok f.op (.slice ka f.kids.length kc)).toArray 52)
        have hja := hJ2 _ _ _ HJ.out hba
        have hna := heap_alloc_new wr (.cells (frC f.tok f.op (.slice ka f.kids.length kc)).toArray 52)
        have HJA0 := Lib.hid hja
        have HSP := Lib.hid hsp
        have HNA := Lib.hid hna
        have HKA := Lib.hid (HKP.out.trans (Keep52.bl hba))
        clear hsp hba hna hja
        cases e1 : (f.op.toList == [])
        · have e2 : f.op.toList.isEmpty = false := by rw [← e1]; cases f.op.toList <;> rfl
          have hop : ¬ f.op.toList = [] := by intro h; rw [h] at e1; simp at e1
          by_cases h100 : d ≤ 100
          · have htf : tokF d f = f.tok :: (toksP (d + 1) f.kids ++ [closeTok f.tok f.op]) := by unfold tokF; rw [if_neg hop, if_pos h100]
            have HTF := Lib.hid htf
            have d1 : decide ((d : Int) ≤ 100) = true := decide_eq_true (by omega)
            clear htf hop
            obtain ⟨fn, tmps, assign, body, hy, hR⟩ := hY _ f.tok _ (by obtain ⟨r, hr⟩ := HPX.out; exact ⟨toksP (d + 1) f.kids ++ (closeTok f.tok f.op :: (toksP d (l.drop (k + 1)) ++ r)), by rw [hr, HSP.out, HTF.out]; simp [List.append_assoc]⟩) HJA0.out
            unfold TokV tokC at hy
            unfold frC at hy hR
            gi_wp2_with fail
            refine hR.mono ?_
            rintro e W5 ⟨⟨rfl, hJ5⟩ | ⟨rfl, hX5⟩, hkp⟩
            · have hn5 := hkp _ _ HNA.out
              obtain ⟨n0, n1, n2, n3, n4, n5, n6⟩ := fr_new7 hn5
              have HN5 := Lib.hid hn5
              have hih := ih f.kids (d + 1) _ _ W5 hfn (by omega) (by obtain ⟨r, hr⟩ := HPX.out; exact ⟨closeTok f.tok f.op :: (toksP d (l.drop (k + 1)) ++ r), by rw [hr, HSP.out, HTF.out]; simp [List.append_assoc]⟩) HKR.out hJ5
              rw [show ((d + 1 : Nat) : Int) = (d : Int) + 1 by omega] at hih
              have HIH := Lib.hid hih
              have HKP5 := Lib.hid (HKA.out.trans hkp)
              clear hJ5 hkp hn5 hih
              gi_wp2_with fail
              refine ⟨trivial, (callsIn_wide.2 (callsIn_wide.1 HIH.out)).mono ?_⟩
              rintro e W6 ⟨⟨rfl, hJ6⟩ | ⟨rfl, a, b, hab, hX6⟩, hkp6⟩
              · have hn6 := hkp6 _ _ HN5.out
                clear n0 n1 n2 n3 n4 n5 n6
                obtain ⟨n0, n1, n2, n3, n4, n5, n6⟩ := fr_new7 hn6
                have HKP6 := Lib.hid (HKP5.out.trans hkp6)
                have HJ6 := Lib.hid hJ6
                have hclo := closing_any f.tok f.op (.slice ka f.kids.length kc) W6
                unfold frC TokV tokC at hclo
                have HCL := Lib.hid hclo
                clear hJ6 hkp6 hn6 hclo
                gi_wp2_with fail
                refine ⟨trivial, (callsIn_wide.2 HCL.out).mono ?_⟩
                rintro e W7 ⟨rfl, hb7⟩
                obtain ⟨fn2, tmps2, assign2, body2, hy2, hR2⟩ := hY _ (closeTok f.tok f.op) _ (by obtain ⟨r, hr⟩ := HPX.out; exact ⟨toksP d (l.drop (k + 1)) ++ r, by rw [hr, HSP.out, HTF.out]; simp [List.append_assoc]⟩) (hJ2 _ _ _ HJ6.out hb7)
                have HKP7 := Lib.hid (HKP6.out.trans (Keep52.bl hb7))
                unfold TokV tokC at hy2
                clear hb7 n0 n1 n2 n3 n4 n5 n6
                gi_wp2_with fail
                refine hR2.mono ?_
                rintro e W8 ⟨⟨rfl, hJ8⟩ | ⟨rfl, hX8⟩, hkp8⟩
                · have HJ8 : Hid (J (pre ++ toksP d (l.take (k + 1))) W8) := Lib.hid (by rw [HTK.out, HTF.out]; simpa [List.append_assoc] using hJ8)
                  have HKP8 := Lib.hid (HKP7.out.trans hkp8)
                  clear hJ8 hkp8
                  gi_wp2_with fail
                  go_roundw
                  case rel => exact ⟨k + 1, by omega, rfl, HJ8, HKP8⟩
                  case measure => simp [intOf]; omega
                · have HX8 := Lib.hid hX8
                  have HKP8 := Lib.hid (HKP7.out.trans hkp8)
                  clear hX8 hkp8
                  gi_wp2_with fail
                  go_ret
                  exact ⟨.inr ⟨rfl, _, toksP d (l.drop (k + 1)), by rw [HSP.out, HTF.out]; simp, HX8.out⟩, HKP8.out⟩
              · have HX6 := Lib.hid hX6
                have HAB := Lib.hid hab
                have HKP6 := Lib.hid (HKP5.out.trans hkp6)
                clear hX6 hab hkp6
                gi_wp2_with fail
                refine ⟨trivial, ?_⟩
                gi_wp2_with fail
                refine ⟨fun _ _ => trivial, ?_⟩
                gi_wp2_with fail
                go_ret
                exact ⟨.inr ⟨rfl, a, b ++ (closeTok f.tok f.op :: toksP d (l.drop (k + 1))), by rw [HSP.out, HTF.out, ← List.append_assoc a, ← HAB.out]; simp, HX6.out⟩, HKP6.out⟩
            · have HX5 := Lib.hid hX5
              have HKP5 := Lib.hid (HKA.out.trans hkp)
              clear hX5 hkp
              gi_wp2_with fail
              refine ⟨trivial, ?_⟩
              gi_wp2_with fail
              refine ⟨trivial, ?_⟩
              gi_wp2_with fail
              refine ⟨fun _ _ => trivial, ?_⟩
              gi_wp2_with fail
              go_ret
              exact ⟨.inr ⟨rfl, _, toksP (d + 1) f.kids ++ (closeTok f.tok f.op :: toksP d (l.drop (k + 1))), by rw [HSP.out, HTF.out]; simp, HX5.out⟩, HKP5.out⟩
          · have htf : tokF d f = [] := by unfold tokF; rw [if_neg hop, if_neg h100]
            have d1 : decide ((d : Int) ≤ 100) = false := decide_eq_false (by omega)
            have HJA : Hid (J (pre ++ toksP d (l.take (k + 1))) (wr.alloc (.cells (frC f.tok f.op (.slice ka f.kids.length kc)).toArray 52))) := Lib.hid (by rw [HTK.out, htf, List.append_nil]; exact hJ2 _ _ _ HJ.out ((Below.refl wr.heap.size wr).alloc (Nat.le_refl _) _))
            unfold frC at HJA HKA
            clear htf hop
            gi_wp2_with fail
            go_roundw
            case rel => exact ⟨k + 1, by omega, rfl, HJA, HKA⟩
            case measure => simp [intOf]; omega
        · have e2 : f.op.toList.isEmpty = true := by rw [← e1]; cases f.op.toList <;> rfl
          have hop : f.op.toList = [] := by simpa using e1
          have htf : tokF d f = [f.tok] := by unfold tokF; rw [if_pos hop]
          have HTF := Lib.hid htf
          clear htf hop
          obtain ⟨fn, tmps, assign, body, hy, hR⟩ := hY _ f.tok _ (by obtain ⟨r, hr⟩ := HPX.out; exact ⟨toksP d (l.drop (k + 1)) ++ r, by rw [hr, HSP.out, HTF.out]; simp [List.append_assoc]⟩) HJA0.out
          unfold TokV tokC at hy
          unfold frC at hy hR
          gi_wp2_with fail
          refine hR.mono ?_
          rintro e W5 ⟨⟨rfl, hJ5⟩ | ⟨rfl, hX5⟩, hkp⟩
          · have HJ5 : Hid (J (pre ++ toksP d (l.take (k + 1))) W5) := Lib.hid (by rw [HTK.out, HTF.out, ← List.append_assoc]; exact hJ5)
            have HKP5 := Lib.hid (HKA.out.trans hkp)
            clear hJ5 hkp
            gi_wp2_with fail
            go_roundw
            case rel => exact ⟨k + 1, by omega, rfl, HJ5, HKP5⟩
            case measure => simp [intOf]; omega
          · have HX5 := Lib.hid hX5
            have HKP5 := Lib.hid (HKA.out.trans hkp)
            clear hX5 hkp
            gi_wp2_with fail
            go_ret
            exact ⟨.inr ⟨rfl, _, toksP d (l.drop (k + 1)), by rw [HSP.out, HTF.out]; simp, HX5.out⟩, HKP5.out⟩
      · obtain rfl : k = l.length := by omega
        have hj := HJ.out
        rw [List.take_length] at hj
        have HJ2 := Lib.hid hj
        clear hj
        gi_wp2_with fail
        go_ret
        exact ⟨.inl ⟨rfl, HJ2.out⟩, HKP.out⟩
set_option maxRecDepth 100000 in
set_option maxHeartbeats 4000000 in
theorem tokens2_any (lb bx : Nat) (l : List Fr) (J X : List Tok → World → Prop) (w0 : World) (S : Nat → Prop) (hJ1 : ∀ pre W, J pre W → Below w0.heap.size w0 W) (hJ2 : ∀ pre W W', J pre W → Below W.heap.size W W' → J pre W')
    (hY : ∀ pre t W, (∃ r, toksP 1 l = pre ++ t :: r) → J pre W → YieldAt Fence.wide 0 Tryz.prog lb #[TokV t] W fun e W' => ((e = .returned (.bool true) ∧ J (pre ++ [t]) W') ∨ (e = .returned (.bool false) ∧ X (pre ++ [t]) W')) ∧ Keep52 W W')
    (v : Value) (hb : ∀ pre W, J pre W → W.cell? ⟨bx, 0, none⟩ = some v) (hr : FrRead w0 S v l) (W : World) (h0 : J [] W) :
    CallsIn Fence.wide 1 Tryz.prog 83 #[.func (.yield lb) #[] #[], .pointer (some ⟨bx, 0, none⟩)] W (TokEnd (toksP 1 l) J X) := by
  have hp := pass2_any lb (toksP 1 l) J X w0 S hJ1 hJ2 hY (fsz l + 1) l 1 v [] W (Nat.lt_succ_self _) (by omega) ⟨[], by simp⟩ hr h0
  have HP := Lib.hid hp
  obtain ⟨a, c, _, _, rfl, _⟩ := hr
  have m0 := hb _ _ h0
  clear hp hb h0 hJ1 hJ2 hY
  refine callsIn_of_wp Tryz.func83 rfl trivial ?_ rfl
  simp only [Tryz.ntmps83, List.size_toArray, List.length_cons, List.length_nil, Nat.reduceAdd, Nat.reduceSub, Array.replicate_succ, Array.replicate_zero, List.push_toArray, List.append_toArray, List.nil_append, List.cons_append]
  gi_wp2_with fail
  refine ⟨trivial, (callsIn_wide.2 (callsIn_wide.1 HP.out)).mono ?_⟩
  rintro e W6 ⟨⟨rfl, hJ6⟩ | ⟨rfl, a, b, hab, hX6⟩, hkp6⟩
  · have HJ6 := Lib.hid hJ6
    clear hJ6 hkp6
    gi_wp2_with fail
    go_end0
    exact .inl ⟨rfl, by simpa using HJ6.out⟩
  · have HX6 := Lib.hid hX6
    have HAB := Lib.hid hab
    clear hX6 hkp6 hab
    gi_wp2_with fail
    go_end0
    exact .inr ⟨rfl, a, b, by simpa using HAB.out, HX6.out⟩

theorem range_toks2 {g : Operand} {ps : Array Tmp} {assign body : Code} {Q : Exit → Act → World → Prop} {a : Act} {w : World} (S : Nat → Prop)
    (l : List Fr) (bx : Nat) (v : Value) (w0 : World) (hr : FrRead w0 S v l)
    (hg : a.eval g = .func (.func 83) #[] #[.pointer (some ⟨bx, 0, none⟩)]) (hps : ps.size = 1)
    (I : List Tok → World → Prop) (Ix : Code → List Tok → World → Prop)
    (hI1 : ∀ pre W, I pre W → Below w0.heap.size w0 W ∧ W.cell? ⟨bx, 0, none⟩ = some v) (hI2 : ∀ pre W W', I pre W → Below W.heap.size W W' → I pre W')
    (hI : StableT w.heap.size I) (hIx : ∀ c, StableT w.heap.size (Ix c)) (h0 : I [] w)
    (Ax : Tok → Act → World → Prop) (hAx : ∀ t a' W k o o', Ax t a' W → W.heap[k]? = some o → o.isCells = false → Ax t a' (W.putObj k o'))
    (hassign : ∀ (lb : Nat) (t : Tok) (W : World) (K : Act → World → Prop), (∀ a' W', Ax t a' W' → Below W.heap.size W W' → K a' W') →
      assign.wpIn (Fence.wide.inRound lb) 0 Tryz.prog (Exit.then K (fun _ _ _ => False)) { tmps := (ps.zip #[TokV t]).foldl (fun t (p, v) => t.setIfInBounds p v) a.tmps, defers := [] } W)
    (hbody : ∀ (lb : Nat) (pre : List Tok) (t : Tok) (a' : Act) (W : World), (∃ r, toksP 1 l = pre ++ t :: r) → I pre W → Ax t a' W → body.wpIn (Fence.wide.inRound lb) 0 Tryz.prog (bodyPostT w.heap.size I Ix (pre ++ [t]) W) a' W)
    (hdone : ∀ (D : Nat) (W : World), w.heap.size ≤ D → I (toksP 1 l) W → W.heap[D]? = some (.deferred (some [])) → Q .normal { a with defers := { target := .collected D, args := #[] } :: a.defers } W)
    (hstop : ∀ (D : Nat) (c : Code) (pre rest : List Tok) (W : World), w.heap.size ≤ D → Ix c pre W → toksP 1 l = pre ++ rest → W.heap[D]? = some (.deferred (some [])) → c.wpIn Fence.wide 2 Tryz.prog Q { a with defers := { target := .collected D, args := #[] } :: a.defers } W) :
    (Code.rangeFunc g ps assign body).wpIn Fence.wide 2 Tryz.prog Q a w := by
  refine wpIn_rangeFunc ?_
  intro fn hfn
  obtain ⟨rec, hrec⟩ : ∃ rec : LoopState → Option Code → Loop, rec = fun st pe => { state := st, pending := pe, fn, tmps := a.tmps, params := ps, assign, body, defers := w.heap.size } := ⟨_, rfl⟩
  obtain ⟨W1, hW1⟩ : ∃ W1, (w.alloc (.deferred (some []))).alloc (.loop (rec .ready none)) = W1 := ⟨_, rfl⟩
  have hL1 : W1.heap[w.heap.size + 1]? = some (.loop (rec .ready none)) := by
    rw [← hW1]; have := World.alloc_heap_new (w.alloc (.deferred (some []))) (.loop (rec .ready none)); rwa [World.size_alloc] at this
  have hK1 : W1.heap[w.heap.size]? = some (.deferred (some [])) := by
    rw [← hW1]; exact (Below.heap_alloc _ _ _ (by simp)).trans (World.alloc_heap_new w _)
  have put : ∀ {J : List Tok → World → Prop}, StableT w.heap.size J → ∀ {pre W} (k : Nat) (o o' : Obj), J pre W → w.heap.size ≤ k → W.heap[k]? = some o → o.isCells = false → J pre (W.putObj k o') :=
    fun {J} hJ {pre W} k o o' h hk hl ho => (hJ pre).putObj (s := ()) o' h hk hl ho
  have alc : ∀ {J : List Tok → World → Prop}, StableT w.heap.size J → ∀ {pre W} (o : Obj), J pre W → J pre (W.alloc o) :=
    fun {J} hJ {pre W} o h => (hJ pre).alloc (s := ()) o h
  have hI1' : I [] W1 := by rw [← hW1]; exact alc hI _ (alc hI _ h0)
  refine ⟨w.heap.size + 1, [{ target := .collected w.heap.size, args := #[] }], W1, { target := .fn (.func 83) #[.pointer (some ⟨bx, 0, none⟩)], args := #[.func (.yield (w.heap.size + 1)) #[] #[]] }, W1, 83,
    #[.func (.yield (w.heap.size + 1)) #[] #[], .pointer (some ⟨bx, 0, none⟩)], W1, ?_, ?_, ?_, ?_, fun _ => by omega, ?_⟩
  · rw [← hW1, hrec]; exact run_enterLoop_outer _ _ _ _ _
  · simp only [resolve, hg]
    simp [go_sem]
  · intro f' _; trivial
  · simp [invoke, go_sem]
  · refine (tokens2_any (w.heap.size + 1) bx l
      (fun pre W => I pre W ∧ W.heap[w.heap.size + 1]? = some (.loop (rec .ready none)) ∧ W.heap[w.heap.size]? = some (.deferred (some [])))
      (fun pre W => ∃ c, Ix c pre W ∧ W.heap[w.heap.size + 1]? = some (.loop (rec .done (some c))) ∧ W.heap[w.heap.size]? = some (.deferred (some [])))
      w0 S (fun pre W h => (hI1 pre W h.1).1)
      (fun pre W W' h hb => ⟨hI2 pre W W' h.1 hb, (hb.block _ (Array.getElem?_eq_some_iff.1 h.2.1).1).trans h.2.1, (hb.block _ (Array.getElem?_eq_some_iff.1 h.2.2).1).trans h.2.2⟩)
      ?_ v (fun pre W h => (hI1 pre W h.1).2) hr W1 ⟨hI1', hL1, hK1⟩).mono ?_
    · rintro pre t W hpre ⟨hi, hl, hk⟩
      have hlt : w.heap.size + 1 < W.heap.size := (Array.getElem?_eq_some_iff.1 hl).1
      have hy := run_yield (P := Tryz.prog) (args := #[TokV t]) hl (by rw [hrec]; exact hps.symm)
      rw [hrec] at hy
      refine ⟨fn, _, assign, body, hy, roundIn_of_wpIn hfn (hassign _ t W _ fun a2 W2 hax hb2 => ?_)⟩
      have hlA : W2.heap[w.heap.size + 1]? = some (.loop (rec .ready none)) := (hb2.block _ hlt).trans hl
      have hkA : W2.heap[w.heap.size]? = some (.deferred (some [])) := (hb2.block _ (by omega)).trans hk
      have hiA : I pre W2 := hI2 _ _ _ hi hb2
      have hltA : w.heap.size + 1 < W2.heap.size := (Array.getElem?_eq_some_iff.1 hlA).1
      refine ⟨_, run_beginRound hlA (by rw [hrec]), ?_⟩
      have hl2 : (W2.putObj (w.heap.size + 1) (.loop { rec .ready none with state := .busy })).heap[w.heap.size + 1]? = some (.loop { rec .ready none with state := .busy }) := World.putObj_heap_same hltA
      have hk2 : (W2.putObj (w.heap.size + 1) (.loop { rec .ready none with state := .busy })).heap[w.heap.size]? = some (.deferred (some [])) := (World.putObj_heap_other (by omega)).trans hkA
      have hkp2 : Keep52 W (W2.putObj (w.heap.size + 1) (.loop { rec .ready none with state := .busy })) := (Keep52.bl hb2).trans (keep52_put _ hlA rfl)
      refine wpIn_mono (hbody _ pre t a2 _ hpre (put hI _ _ _ hiA (by omega) hlA rfl) (hAx _ _ _ _ _ _ hax hlA rfl)) ?_
      have fin : ∀ (jump : Option Code) (W3 : World), KeepsFrom w.heap.size (W2.putObj (w.heap.size + 1) (.loop { rec .ready none with state := .busy })) W3 →
          (Instr.endRound (w.heap.size + 1) jump).run Tryz.prog W3 = .ok (.bool jump.isNone) (W3.putObj (w.heap.size + 1) (.loop (rec (if jump.isNone then .ready else .done) jump))) ∧
          W3.heap[w.heap.size + 1]? = some (.loop { rec .ready none with state := .busy }) ∧
          (W3.putObj (w.heap.size + 1) (.loop (rec (if jump.isNone then .ready else .done) jump))).heap[w.heap.size + 1]? = some (.loop (rec (if jump.isNone then .ready else .done) jump)) ∧
          (W3.putObj (w.heap.size + 1) (.loop (rec (if jump.isNone then .ready else .done) jump))).heap[w.heap.size]? = some (.deferred (some [])) := fun jump W3 hk3 => by
        have hl3 := hk3.same _ _ (by omega) hl2 rfl
        have := run_endRound (P := Tryz.prog) jump hl3
        rw [hrec] at this ⊢
        exact ⟨this, by rw [hrec] at hl3; exact hl3, World.putObj_heap_same (Array.getElem?_eq_some_iff.1 hl3).1, (World.putObj_heap_other (by omega)).trans (hk3.same _ _ (Nat.le_refl _) hk2 rfl)⟩
      rintro e a3 W3 hp
      cases e with
      | normal =>
        obtain ⟨hk3, h52, hi3⟩ := hp
        obtain ⟨hr, hl3, hl4, hk4⟩ := fin none W3 hk3
        exact ⟨_, _, hr, .inl ⟨rfl, put hI _ _ _ hi3 (by omega) hl3 rfl, hl4, hk4⟩, (hkp2.trans h52).trans (keep52_put _ hl3 rfl)⟩
      | ret =>
        obtain ⟨hk3, h52, hi3⟩ := hp
        obtain ⟨hr, hl3, hl4, hk4⟩ := fin (some .ret) W3 hk3
        exact ⟨_, _, hr, .inr ⟨rfl, .ret, put (hIx _) _ _ _ hi3 (by omega) hl3 rfl, hl4, hk4⟩, (hkp2.trans h52).trans (keep52_put _ hl3 rfl)⟩
      | exit id =>
        obtain ⟨hk3, h52, hi3⟩ := hp
        obtain ⟨hr, hl3, hl4, hk4⟩ := fin (some (.exit id)) W3 hk3
        exact ⟨_, _, hr, .inr ⟨rfl, .exit id, put (hIx _) _ _ _ hi3 (by omega) hl3 rfl, hl4, hk4⟩, (hkp2.trans h52).trans (keep52_put _ hl3 rfl)⟩
      | goto t =>
        obtain ⟨hk3, h52, hi3⟩ := hp
        obtain ⟨hr, hl3, hl4, hk4⟩ := fin (some (.goto t)) W3 hk3
        exact ⟨_, _, hr, .inr ⟨rfl, .goto t, put (hIx _) _ _ _ hi3 (by omega) hl3 rfl, hl4, hk4⟩, (hkp2.trans h52).trans (keep52_put _ hl3 rfl)⟩
      | panic _ => exact hp.elim
      | outgrown => exact hp.elim
    · rintro e W3 (⟨rfl, hi, hl, hk⟩ | ⟨rfl, pre, rest, hq, c, hi, hl, hk⟩)
      · exact ⟨none, _, by have := run_endLoop (P := Tryz.prog) hl (by rw [hrec]; simp); rw [hrec] at this; exact this, hdone _ _ (Nat.le_refl _) (put hI _ _ _ hi (by omega) hl rfl) ((World.putObj_heap_other (by omega)).trans hk)⟩
      · exact ⟨some c, _, by have := run_endLoop (P := Tryz.prog) hl (by rw [hrec]; simp); rw [hrec] at this; exact this, hstop _ c pre rest _ (Nat.le_refl _) (put (hIx _) _ _ _ hi (by omega) hl rfl) hq ((World.putObj_heap_other (by omega)).trans hk)⟩
end Go.Proofs.YtopbmndjnjnmcaaGreatDoor

/- (S3) -/
/- Package fragment: Flat, Same and Check. -/
namespace Go.Proofs.YtopbmndjnjnmcaaGreatDoor
open Go.RowKit Lx

attribute [local go_sem] Oper.semAt_some

/-- What AppendSeq holds: a box with the tokens that have come. -/
def AsI (w : World) (pre : List Tok) (W : World) : Prop :=
  (∃ v, Boxed W w.heap.size 22 v ∧ W.ownsRow w.heap.size 50 5 v pre.length (toksC pre)) ∧ Below w.heap.size w W
theorem AsI.grown {w : World} {pre : List Tok} {W W' : World} {row : Option Nat} (h : AsI w pre W) (hg : W.grownBy W' row) (hrow : ∀ r, row = some r → w.heap.size + 1 ≤ r ∧ ∃ o : Obj, W.heap[r]? = some o ∧ o.isCells = false) : AsI w pre W' := by
  obtain ⟨⟨v, hv, hr⟩, hb⟩ := h
  refine ⟨⟨v, hv.kept hg (fun e => by have := (hrow _ e.symm).1; omega), hr.kept hg ?_⟩, hb.grown hg hb.size (fun k e => by have := (hrow k e).1; omega)⟩
  rcases hr.2 with ⟨rfl, _⟩ | ⟨g, cap, cur, rfl, _, hgb, _⟩
  · exact .inl rfl
  · refine .inr fun e => ?_
    obtain ⟨_, o, ho, hc⟩ := hrow g (by simpa [Value.ownBlock] using e.symm)
    rw [hgb] at ho; cases ho; cases hc
theorem AsI.bl {w : World} {pre : List Tok} {W W' : World} (h : AsI w pre W) (hb : Below W.heap.size W W') : AsI w pre W' := h.grown (grown_bl hb none) (fun r e => by cases e)

theorem keep52_app {W w1 : World} {B base k : Nat} {v u : Value} {xs : List Value} {tmp : Obj} (hv : Boxed W B 22 v) (hro : W.ownsRow base 50 5 v k xs) (hg : (W.alloc tmp).grownBy w1 v.ownBlock) : Keep52 W (w1.setCell ⟨B, 0, none⟩ u) := fun b cs hb => by
  have hlt := (Array.getElem?_eq_some_iff.1 hb).1
  have h1 : some b ≠ v.ownBlock := by
    rcases hro.2 with ⟨rfl, _⟩ | ⟨g, cap, cur, rfl, _, hgb, _⟩
    · simp [Value.ownBlock]
    · intro e
      obtain rfl : b = g := by simpa [Value.ownBlock] using e
      rw [hb] at hgb
      simp at hgb
  have h2 : b ≠ B := fun e => by
    subst e
    unfold Boxed at hv
    rw [hb] at hv
    simp at hv
  exact (set_ne _ _ _ _ h2).trans ((hg.block b (by rw [World.size_alloc]; omega) h1).trans ((Below.heap_alloc _ _ _ hlt).trans hb))

set_option maxRecDepth 100000 in
set_option maxHeartbeats 4000000 in
theorem appendSeq_in (S : Nat → Prop) (l : List Fr) (v : Value) (bx : Nat) (w : World) (hr : FrRead w S v l) (hbx : w.cell? ⟨bx, 0, none⟩ = some v) (hlen : (toksP 1 l).length ≤ 6000) :
    CallsIn Fence.wide 2 Tryz.prog 88 #[.slice none 0 0, .func (.func 83) #[] #[.pointer (some ⟨bx, 0, none⟩)]] w fun e W => ∃ a n c, e = .returned (.slice a n c) ∧ TokRead W (.slice a n c) (toksP 1 l) ∧ (a = none → c = 0) ∧ Below w.heap.size w W := by
  have HR := Lib.hid hr
  have HBX := Lib.hid hbx
  have hbl := cell_lt' hbx
  obtain ⟨i0, hi0, hz0, hz1, hz2⟩ := info_parts info50z
  clear hr hbx
  refine callsIn_of_wp_marks Tryz.func88 rfl trivial ?_ rfl
  simp only [Tryz.ntmps88, List.size_toArray, List.length_cons, List.length_nil, Nat.reduceAdd, Nat.reduceSub, Array.replicate_succ, Array.replicate_zero, List.push_toArray, List.append_toArray, List.nil_append, List.cons_append]
  have h0 : AsI w [] (w.alloc (.cells #[.slice none 0 0] 22)) := ⟨⟨_, Boxed.new w 22 (.slice none 0 0), rfl, .inl ⟨rfl, rfl⟩⟩, (Below.refl _ w).alloc (Nat.le_refl _) _⟩
  have H0 := Lib.hid h0
  clear h0
  gi_wp2_with fail
  refine range_toks2 S l bx v w HR.out rfl rfl (AsI w) (fun _ _ _ => False)
    (fun pre W h => ⟨h.2, (h.2.cell (p := ⟨bx, 0, none⟩) hbl).trans HBX.out⟩) (fun pre W W' h hb => h.bl hb) (fun pre _ W W' row h hg hrow => h.grown hg (fun r e => by have := hrow r e; simpa using this)) (fun c pre _ W W' row h hg hrow => h) H0.out
    (fun t a' W => ∃ N, a' = { tmps := #[.slice none 0 0, .func (.func 83) #[] #[.pointer (some ⟨bx, 0, none⟩)], .pointer (some ⟨w.heap.size, 0, none⟩), undef, .slice none 0 0, .pointer (some ⟨N, 0, none⟩), .func (.func 83) #[] #[.pointer (some ⟨bx, 0, none⟩)], TokV t, undef, undef, undef, undef, undef], defers := [] } ∧ W.heap[N]? = some (.cells (tokC t) 50 (0, 0)))
    (fun t a' W k o o' h hk ho => ?ax) ?assign ?body ?done ?stop
  case ax =>
    obtain ⟨N, rfl, hN⟩ := h
    refine ⟨N, rfl, (World.putObj_heap_other ?_).trans hN⟩
    rintro rfl
    rw [hN] at hk; cases hk; cases ho
  case assign =>
    intro lb t W K hK
    simp only [TokV, tokC] at hK ⊢
    gi_wp2
    exact hK _ _ ⟨_, rfl, heap_alloc_new _ _⟩ ((Below.refl _ _).alloc (Nat.le_refl _) _)
  case body =>
    rintro lb pre t a' W ⟨r, hpre⟩ ⟨⟨v0, hv, hro⟩, hb⟩ ⟨N, rfl, hN⟩
    obtain ⟨va, vn, vc, rfl⟩ := ownsRow_slice hro
    obtain ⟨t0, t1, t2, t3, t4⟩ := tok_cells hN
    have hpl : pre.length < 6001 := by rw [hpre, List.length_append] at hlen; omega
    have c1 := hv.cell
    have f1 := hv.frozen
    have HV := Lib.hid hv
    have HRO := Lib.hid hro
    have HB := Lib.hid hb
    have hbs := hb.size
    unfold TokV tokC
    clear hv hro hb hpre hN
    gi_wp2_with (gi_at_builtin; go_must (refine wpListIn_append_own _ rfl (.tmp 8) (.tmp 10) 22 rfl w.heap.size 50 i0 _ 5 48 Tryz.underlying22 hi0 hz0 hz1 hz2 rfl (by omega) (.slice va vn vc) pre.length (toksC pre) (by rfl) (HRO.out.alloc _) ⟨W.heap.size, 0, none⟩ 1 1 [.int .i64 t.kind, .int .i64 t.num, .string t.text, .int .i64 t.at_, .int .i64 t.mark] (by rfl) (by rfl) (World.news_of_block (cs := #[.int .i64 t.kind, .int .i64 t.num, .string t.text, .int .i64 t.at_, .int .i64 t.mark]) (t := 50) (fr := (0, 0)) (heap_alloc_new _ _)) (by simp [Value.oneCell']) (by unfold maxLen; omega) (by omega) (by rw [World.size_alloc]; omega) ?_); intro v' w1 hown' hgrow hnn; obtain ⟨g1, cap1, rfl⟩ := ownsRow_succ hown'; obtain ⟨hv1, hset, hrow', hko, hbel⟩ := Boxed.appended HV.out (by decide) HRO.out hbs (Nat.le_refl _) hown' hgrow; have d1 := hv1.cell; have e1 := hv1.frozen; have HSET := Lib.hid hset; have HROW := Lib.hid hrow'; have HKO := Lib.hid hko; have HBEL := Lib.hid hbel; have HK5 := Lib.hid (keep52_app (u := .slice (some ⟨g1, 0, none⟩) (pre.length + 1) cap1) HV.out HRO.out hgrow); clear hv1 hset hrow' hko hbel hgrow hown' hnn)
    exact ⟨HKO.out.from _, HK5.out, ⟨_, HSET.out, by rw [List.length_append, toksC_app]; exact HROW.out⟩, HB.out.trans HBEL.out⟩
  case done =>
    rintro D W hD ⟨⟨v0, hv, hro⟩, hb⟩ hK
    obtain ⟨va, vn, vc, rfl⟩ := ownsRow_slice hro
    have c1 := hv.cell
    have HRO := Lib.hid hro
    have HB := Lib.hid hb
    clear hv hro hb
    gi_wp2
    refine ⟨by simp, .inl ⟨D, _, rfl, run_takeDeferred hK, ?_⟩⟩
    have hdl : w.heap.size + 1 ≤ D := by simpa using hD
    refine ⟨_, results_tmp rfl _ _ _, va, vn, vc, rfl, tok_owns (ownsRow_putObj HRO.out _ hK rfl) rfl (by unfold maxLen; omega), fun hn => ?_, HB.out.trans (belowK_b (w := w) (Nat.le_refl _) _ D _ _ (by omega) hK rfl rfl)⟩
    rcases HRO.out.2 with ⟨h, _⟩ | ⟨g, cap, cur, h, _⟩
    · cases h; rfl
    · cases h; cases hn
  case stop =>
    rintro D c pre rest W hD h
    exact h.elim

/-- **slices.AppendSeq** of the tokens of fragments to nothing -/
theorem appendSeq_any (S : Nat → Prop) (l : List Fr) (v : Value) (bx : Nat) (w : World) (hr : FrRead w S v l) (hbx : w.cell? ⟨bx, 0, none⟩ = some v) (hlen : (toksP 1 l).length ≤ 6000) :
    Calls Tryz.prog 88 #[.slice none 0 0, .func (.func 83) #[] #[.pointer (some ⟨bx, 0, none⟩)]] w fun e W => ∃ a n c, e = .returned (.slice a n c) ∧ TokRead W (.slice a n c) (toksP 1 l) ∧ (a = none → c = 0) ∧ Below w.heap.size w W :=
  (callsIn_wide (n := 2)).1 (appendSeq_in S l v bx w hr hbx hlen)

set_option maxRecDepth 100000 in
/-- **slices.Collect** of the tokens of fragments -/
theorem collect_any (S : Nat → Prop) (l : List Fr) (v : Value) (bx : Nat) (w : World) (hr : FrRead w S v l) (hbx : w.cell? ⟨bx, 0, none⟩ = some v) (hlen : (toksP 1 l).length ≤ 6000) :
    Calls Tryz.prog 59 #[.func (.func 83) #[] #[.pointer (some ⟨bx, 0, none⟩)]] w fun e W => ∃ a n c, e = .returned (.slice a n c) ∧ TokRead W (.slice a n c) (toksP 1 l) ∧ (a = none → c = 0) ∧ Below w.heap.size w W := by
  have HC := Lib.hid (appendSeq_any S l v bx w hr hbx hlen)
  clear hr hbx
  go_enter Tryz.func59, Tryz.ntmps59
  go_wp2_with fail
  go_at_call 88
  refine HC.out.mono ?_
  rintro e W1 ⟨a, n, c, rfl, h1, h2, h3⟩
  have H1 := Lib.hid h1
  have H2 := Lib.hid h2
  clear h1 h2
  go_wp2_with fail
  go_ret
  exact ⟨a, n, c, rfl, H1.out, H2.out, h3⟩

theorem sizeP_le {l : List Fr} (h : fitsP l = true) : (toksP 1 l).length ≤ 6000 := by
  unfold fitsP sizeP at h
  simp at h
  omega

set_option maxRecDepth 100000 in
/-- **fits** -/
theorem fits_any (S : Nat → Prop) (l : List Fr) (v : Value) (w : World) (hr : FrRead w S v l) :
    Calls Tryz.prog 58 #[v] w fun e W => e = .returned (.bool (fitsP l)) ∧ Below w.heap.size w W := by
  have HR := Lib.hid hr
  obtain ⟨a, c, _, _, rfl, _⟩ := hr
  unfold fitsP
  by_cases hd : depthP l ≤ 100
  · have h1 : decide (depthP l ≤ 100) = true := decide_eq_true hd
    by_cases hs : sizeP l ≤ 6000
    · have h2 : decide (sizeP l ≤ 6000) = true := decide_eq_true hs
      have h3 : decide ((sizeP l : Int) ≤ 6000) = true := decide_eq_true (by omega)
      go_enter Tryz.func58, Tryz.ntmps58
      go_wp2_with fail
      go_at_call 23
      refine (Depth_any S l _ _ HR.out).mono ?_
      rintro e W1 ⟨rfl, hb⟩
      have B1 := Lib.hid hb
      clear hb
      go_wp2_with fail
      go_at_call 21
      refine (size_any S l _ _ (HR.out.bl B1.out)).mono ?_
      rintro e W2 ⟨rfl, hb⟩
      have B2 := Lib.hid (B1.out.trans (hb.mono B1.out.size))
      clear hb
      go_wp2_with fail
      go_ret
      exact ⟨by first | rfl | (rw [h1, h2]; rfl), B2.out⟩
    · have h2 : decide (sizeP l ≤ 6000) = false := decide_eq_false hs
      have h3 : decide ((sizeP l : Int) ≤ 6000) = false := decide_eq_false (by omega)
      go_enter Tryz.func58, Tryz.ntmps58
      go_wp2_with fail
      go_at_call 23
      refine (Depth_any S l _ _ HR.out).mono ?_
      rintro e W1 ⟨rfl, hb⟩
      have B1 := Lib.hid hb
      clear hb
      go_wp2_with fail
      go_at_call 21
      refine (size_any S l _ _ (HR.out.bl B1.out)).mono ?_
      rintro e W2 ⟨rfl, hb⟩
      have B2 := Lib.hid (B1.out.trans (hb.mono B1.out.size))
      clear hb
      go_wp2_with fail
      go_ret
      exact ⟨by first | rfl | (rw [h1, h2]; rfl), B2.out⟩
  · have h1 : decide (depthP l ≤ 100) = false := decide_eq_false hd
    go_enter Tryz.func58, Tryz.ntmps58
    go_wp2_with fail
    go_at_call 23
    refine (Depth_any S l _ _ HR.out).mono ?_
    rintro e W1 ⟨rfl, hb⟩
    have B1 := Lib.hid hb
    clear hb
    go_wp2_with fail
    go_ret
    exact ⟨by first | rfl | (rw [h1]; rfl), B1.out⟩

set_option maxRecDepth 100000 in
/-- **Flat** -/
theorem flat_any (S : Nat → Prop) (l : List Fr) (v : Value) (w : World) (hr : FrRead w S v l) :
    Calls Tryz.prog 28 #[v] w fun e W => ∃ a n c, e = .returned (.slice a n c) ∧ TokRead W (.slice a n c) (flatP l) ∧ (a = none → c = 0) ∧ Below w.heap.size w W := by
  have HR := Lib.hid hr
  obtain ⟨a, c, _, _, rfl, _⟩ := hr
  unfold flatP
  cases hf : fitsP l
  · have HF := Lib.hid hf
    clear hf
    go_enter Tryz.func28, Tryz.ntmps28
    go_wp2_with fail
    go_at_call 58
    refine (fits_any S l _ _ HR.out).mono ?_
    rintro e W1 ⟨rfl, hb⟩
    rw [HF.out]
    have B1 := Lib.hid hb
    clear hb
    go_wp2_with fail
    go_ret
    exact ⟨none, 0, 0, rfl, ⟨none, 0, rfl, ⟨Nat.zero_le _, Nat.le_refl _⟩, fun k t h => by simp at h⟩, fun _ => rfl, B1.out⟩
  · have HF := Lib.hid hf
    have HS := Lib.hid (sizeP_le hf)
    clear hf
    go_enter Tryz.func28, Tryz.ntmps28
    go_wp2_with fail
    go_at_call 58
    refine (fits_any S l _ _ HR.out).mono ?_
    rintro e W1 ⟨rfl, hb⟩
    rw [HF.out]
    have B1 := Lib.hid hb
    clear hb
    go_wp2_with fail
    go_at_call 52
    refine (tokens_any _ ⟨_, _, _, rfl⟩ _).mono ?_
    rintro e W2 ⟨rfl, rfl⟩
    have hb2 := (Below.refl W1.heap.size W1).alloc (Nat.le_refl _) (.cells #[.slice a l.length c] 25)
    have B2 := Lib.hid (B1.out.trans (hb2.mono B1.out.size))
    have HC := Lib.hid (collect_any S l (.slice a l.length c) W1.heap.size _ (HR.out.bl B2.out) (Boxed.new W1 25 _).cell HS.out)
    clear hb2
    go_wp2_with fail
    go_at_call 59
    refine HC.out.mono ?_
    rintro e W3 ⟨a3, n3, c3, rfl, h1, h2, h3⟩
    have H1 := Lib.hid h1
    have H2 := Lib.hid h2
    have B3 := Lib.hid (B2.out.trans (h3.mono B2.out.size))
    clear h1 h2 h3
    go_wp2_with fail
    go_ret
    exact ⟨a3, n3, c3, rfl, H1.out, H2.out, B3.out⟩

set_option maxRecDepth 100000 in
/-- **Same** -/
theorem Same_any (S S2 : Nat → Prop) (l l2 : List Fr) (v v2 : Value) (w : World) (hr : FrRead w S v l) (hr2 : FrRead w S2 v2 l2) :
    Calls Tryz.prog 32 #[v, v2] w fun e W => e = .returned (.bool (sameP l l2)) ∧ Below w.heap.size w W := by
  have HR := Lib.hid hr
  have HR2 := Lib.hid hr2
  obtain ⟨a, c, _, _, rfl, _⟩ := hr
  obtain ⟨a2, c2, _, _, rfl, _⟩ := hr2
  unfold sameP
  by_cases hd : depthP l ≤ 100
  · have h1 : decide (depthP l ≤ 100) = true := decide_eq_true hd
    go_enter Tryz.func32, Tryz.ntmps32
    go_wp2_with fail
    go_at_call 23
    refine (Depth_any S l _ _ HR.out).mono ?_
    rintro e W1 ⟨rfl, hb⟩
    have B1 := Lib.hid hb
    clear hb
    go_wp2_with fail
    go_at_call 62
    refine (same_any S S2 (fsz l + 1) l l2 _ _ _ (Nat.lt_succ_self _) (HR.out.bl B1.out) (HR2.out.bl B1.out)).mono ?_
    rintro e W2 ⟨rfl, hb⟩
    have B2 := Lib.hid (B1.out.trans (hb.mono B1.out.size))
    clear hb
    go_wp2_with fail
    go_ret
    exact ⟨by first | rfl | (rw [h1]; rfl), B2.out⟩
  · have h1 : decide (depthP l ≤ 100) = false := decide_eq_false hd
    go_enter Tryz.func32, Tryz.ntmps32
    go_wp2_with fail
    go_at_call 23
    refine (Depth_any S l _ _ HR.out).mono ?_
    rintro e W1 ⟨rfl, hb⟩
    have B1 := Lib.hid hb
    clear hb
    go_wp2_with fail
    go_ret
    exact ⟨by first | rfl | (rw [h1]; rfl), B1.out⟩
end Go.Proofs.YtopbmndjnjnmcaaGreatDoor

/- (S4) -/
/- Package fragment: Check. -/
namespace Go.Proofs.YtopbmndjnjnmcaaGreatDoor
open Go.RowKit Lx

attribute [local go_sem] Oper.semAt_some

theorem flatP_txt {l : List Fr} (h : TxtOk l) : ∀ t ∈ flatP l, t.text.size ≤ maxLen := fun t ht => by
  unfold flatP at ht
  split at ht
  · exact toksP_txt (fsz l + 1) 1 l (Nat.lt_succ_self _) h t ht
  · cases ht

set_option maxRecDepth 100000 in
set_option maxHeartbeats 4000000 in
/-- **Check** -/
theorem fragCheck_any (S : Nat → Prop) (l : List Fr) (ws : List ByteArray) (v vw : Value) (w : World) (he : Env w) (hr : FrRead w S v l) (hw : StrRead w vw ws) (hz : ∀ s ∈ ws, s.size ≤ maxLen) (ht : TxtOk l) :
    Calls Tryz.prog 30 #[v, vw] w fun e W => e = .returned (.int .i64 (checkP l ws : Nat)) ∧ Below w.heap.size w W := by
  have HE := Lib.hid he
  have HR := Lib.hid hr
  have HW := Lib.hid hw
  have HZ := Lib.hid hz
  have HT := Lib.hid (flatP_txt ht)
  obtain ⟨a, c, _, _, rfl, _⟩ := hr
  obtain ⟨wa, wc, rfl, _⟩ := hw
  obtain ⟨res, hres⟩ : ∃ res, checkP l ws = res := ⟨_, rfl⟩
  rw [hres]
  have HRS := Lib.hid hres
  unfold checkP at hres
  clear he hz ht
  cases hok : okWords ws
  · obtain rfl : 1 = res := by rw [← hres, hok]; rfl
    have HOK := Lib.hid hok
    clear hres hok
    go_enter Tryz.func30, Tryz.ntmps30
    go_wp2_with fail
    go_at_call 61
    refine (areRight_any _ ws _ HE.out HZ.out HW.out).mono ?_
    rintro e W1 ⟨rfl, hb⟩
    rw [HOK.out]
    have B1 := Lib.hid hb
    clear hb
    go_wp2_with fail
    go_ret
    exact ⟨rfl, B1.out⟩
  · have HOK := Lib.hid hok
    rw [hok] at hres
    simp only [Bool.true_eq_false, if_false] at hres
    clear hok
    by_cases hd : 100 < depthP l
    · obtain rfl : 6 = res := by rw [← hres, if_pos hd]
      have h1 : decide ((depthP l : Int) > 100) = true := decide_eq_true (by omega)
      clear hres
      go_enter Tryz.func30, Tryz.ntmps30
      go_wp2_with fail
      go_at_call 61
      refine (areRight_any _ ws _ HE.out HZ.out HW.out).mono ?_
      rintro e W1 ⟨rfl, hb⟩
      rw [HOK.out]
      have B1 := Lib.hid hb
      clear hb
      go_wp2_with fail
      go_at_call 23
      refine (Depth_any S l _ _ (HR.out.bl B1.out)).mono ?_
      rintro e W2 ⟨rfl, hb⟩
      have B2 := Lib.hid (B1.out.trans (hb.mono B1.out.size))
      clear hb
      go_wp2_with fail
      go_ret
      exact ⟨rfl, B2.out⟩
    · rw [if_neg hd] at hres
      have h1 : decide ((depthP l : Int) > 100) = false := decide_eq_false (by omega)
      by_cases hs : 6000 < sizeP l
      · obtain rfl : 2 = res := by rw [← hres, if_pos hs]
        have h2 : decide ((sizeP l : Int) > 6000) = true := decide_eq_true (by omega)
        clear hres
        go_enter Tryz.func30, Tryz.ntmps30
        go_wp2_with fail
        go_at_call 61
        refine (areRight_any _ ws _ HE.out HZ.out HW.out).mono ?_
        rintro e W1 ⟨rfl, hb⟩
        rw [HOK.out]
        have B1 := Lib.hid hb
        clear hb
        go_wp2_with fail
        go_at_call 23
        refine (Depth_any S l _ _ (HR.out.bl B1.out)).mono ?_
        rintro e W2 ⟨rfl, hb⟩
        have B2 := Lib.hid (B1.out.trans (hb.mono B1.out.size))
        clear hb
        go_wp2_with fail
        go_at_call 21
        refine (size_any S l _ _ (HR.out.bl B2.out)).mono ?_
        rintro e W3 ⟨rfl, hb⟩
        have B3 := Lib.hid (B2.out.trans (hb.mono B2.out.size))
        clear hb
        go_wp2_with fail
        go_ret
        exact ⟨rfl, B3.out⟩
      · rw [if_neg hs] at hres
        have h2 : decide ((sizeP l : Int) > 6000) = false := decide_eq_false (by omega)
        have HRE := Lib.hid hres
        clear hres
        go_enter Tryz.func30, Tryz.ntmps30
        go_wp2_with fail
        go_at_call 61
        refine (areRight_any _ ws _ HE.out HZ.out HW.out).mono ?_
        rintro e W1 ⟨rfl, hb⟩
        rw [HOK.out]
        have B1 := Lib.hid hb
        clear hb
        go_wp2_with fail
        go_at_call 23
        refine (Depth_any S l _ _ (HR.out.bl B1.out)).mono ?_
        rintro e W2 ⟨rfl, hb⟩
        have B2 := Lib.hid (B1.out.trans (hb.mono B1.out.size))
        clear hb
        go_wp2_with fail
        go_at_call 21
        refine (size_any S l _ _ (HR.out.bl B2.out)).mono ?_
        rintro e W3 ⟨rfl, hb⟩
        have B3 := Lib.hid (B2.out.trans (hb.mono B2.out.size))
        clear hb
        go_wp2_with fail
        go_at_call 28
        refine (flat_any S l _ _ (HR.out.bl B3.out)).mono ?_
        rintro e W4 ⟨ta, tn, tc, rfl, htr, _, hb⟩
        have B4 := Lib.hid (B3.out.trans (hb.mono B3.out.size))
        have HTR := Lib.hid htr
        clear hb htr
        go_wp2_with fail
        go_at_call 15
        refine (fragRead_any (flatP l) ws _ _ _ HTR.out (HW.out.bl B4.out) (HE.out.below B4.out) HZ.out HT.out).mono ?_
        rintro e W5 hend
        cases hpr : pRead (flatP l) ws with
        | bad er i =>
          obtain ⟨hb, rfl⟩ := read_bad hend hpr
          have hne := pRead_ne HT.out hpr
          have B5 := Lib.hid (B4.out.trans (hb.mono B4.out.size))
          obtain rfl : 22 = res := by rw [← HRE.out, hpr]
          have h3 : ((er : Int) != 0) = true := by simp; omega
          clear hend hb hpr hne
          go_wp2_with fail
          go_ret
          exact ⟨rfl, B5.out⟩
        | ok l2 =>
          obtain ⟨hb, va, ca, rfl, hfr⟩ := read_ok hend hpr
          have B5 := Lib.hid (B4.out.trans (hb.mono B4.out.size))
          have HFR := Lib.hid hfr
          have hre2 := HRE.out
          rw [hpr] at hre2
          simp only at hre2
          have HRE2 := Lib.hid hre2
          clear hend hb hpr hfr hre2
          go_wp2_with fail
          go_at_call 32
          refine (Same_any (fun _ => True) S l2 l _ _ _ HFR.out (HR.out.bl B5.out)).mono ?_
          rintro e W6 ⟨rfl, hb⟩
          have B6 := Lib.hid (B5.out.trans (hb.mono B5.out.size))
          clear hb
          cases hsm : sameP l2 l
          · obtain rfl : 22 = res := by rw [← HRE2.out, hsm]; rfl
            clear hsm
            go_wp2_with fail
            go_ret
            exact ⟨rfl, B6.out⟩
          · obtain rfl : 0 = res := by rw [← HRE2.out, hsm]; rfl
            clear hsm
            go_wp2_with fail
            go_ret
            exact ⟨rfl, B6.out⟩
end Go.Proofs.YtopbmndjnjnmcaaGreatDoor

/- Package fragment: readable lists as the law's loop sees them; opened; the walk of FragMatched. -/
/- (P8body) -/
namespace Go.Proofs.YtopbmndjnjnmcaaGreatDoor
open Go.RowKit Lx
/-- The texts of groups are their openings. -/
def opTxt : List Fr → Prop
  | [] => True
  | .mk t op ks :: r => (op.toList ≠ [] → t.text.toList = op.toList) ∧ opTxt ks ∧ opTxt r
theorem nil_toList : (⟨#[]⟩ : ByteArray).toList = [] := by decide +kernel
def OpI (s : Rst) : Prop := ∀ g ∈ s.g :: s.stk, opTxt g.kids ∧ (g.op.toList ≠ [] → g.tok.text.toList = g.op.toList)
section
variable {ts : List Tok} {ws : List ByteArray}
theorem OpI.same {s s' : Rst} (h : OpI s) (h1 : s'.g = s.g) (h2 : s'.stk = s.stk) : OpI s' := by unfold OpI; rw [h1, h2]; exact h
end
/-- How deep groups are. -/
def dep : List Fr → Nat
  | [] => 0
  | .mk _ op ks :: r => max (if op.toList = [] then 0 else 1 + dep ks) (dep r)
theorem dep_cons (f : Fr) (r : List Fr) : dep (f :: r) = max (if f.op.toList = [] then 0 else 1 + dep f.kids) (dep r) := by
  cases f; rw [dep]; rfl
theorem depF_dep : ∀ (n : Nat) (l : List Fr) (most acc : Nat), fsz l < n → acc ≤ most → depF most l acc = min most (max acc (dep l))
  | 0, _, _, _, h, _ => absurd h (Nat.not_lt_zero _)
  | n + 1, [], most, acc, _, ha => by rw [depF, dep]; omega
  | n + 1, f :: r, most, acc, hn, ha => by
    rw [fsz_cons] at hn
    rw [depF_cons, dep_cons]
    by_cases h : acc = most
    · rw [if_pos h]; omega
    · rw [if_neg h]
      by_cases ho : f.op.toList = []
      · rw [if_pos ho, if_pos ho, depF_dep n r most acc (by omega) ha]
        omega
      · rw [if_neg ho, if_neg ho, depF_dep n f.kids (most - 1) 0 (by omega) (Nat.zero_le _), depF_dep n r most _ (by omega) (by omega)]
        omega
theorem depthP_dep (l : List Fr) : depthP l = min 101 (dep l) := by
  unfold depthP
  rw [depF_dep (fsz l + 1) l 101 0 (Nat.lt_succ_self _) (Nat.zero_le _)]
  omega

end Go.Proofs.YtopbmndjnjnmcaaGreatDoor
/- (W2body) -/
namespace Go.Proofs.YtopbmndjnjnmcaaGreatDoor
open Go.RowKit Lx
attribute [local go_sem] Oper.semAt_some

/-- A list that a call owns has become another one. -/
def GrowV (w W : World) (ov ov' : Value) : Prop := w.grownBy W ov.ownBlock ∧ ∀ g, ov'.ownBlock = some g → ov.ownBlock = some g ∨ w.heap.size ≤ g
theorem GrowV.refl (w : World) (v : Value) : GrowV w w v v := ⟨grown_bl (Below.refl _ _) _, fun _ h => .inl h⟩
theorem GrowV.trans {a b c : World} {u v x : Value} (h : GrowV a b u v) (k : GrowV b c v x) : GrowV a c u x := by
  refine ⟨⟨k.1.os.trans h.1.os, k.1.tape.trans h.1.tape, k.1.output.trans h.1.output, Nat.le_trans h.1.size k.1.size, fun i hi hr => ?_⟩, fun g hg => ?_⟩
  · refine (k.1.block i (Nat.lt_of_lt_of_le hi h.1.size) fun e => ?_).trans (h.1.block i hi hr)
    rcases h.2 i e.symm with h2 | h2
    · exact hr h2.symm
    · omega
  · rcases k.2 g hg with h2 | h2
    · exact h.2 g h2
    · exact .inr (Nat.le_trans h.1.size h2)
theorem GrowV.bl {a b : World} (v : Value) (h : Below a.heap.size a b) : GrowV a b v v := ⟨grown_bl h _, fun _ hg => .inl hg⟩
theorem GrowV.low {w W : World} {ov ov' : Value} {base n : Nat} {xs : List Value} {e : TypeId} {size : Nat} (h : GrowV w W ov ov') (ho : w.ownsRow base e size ov n xs) {b : Nat} (hb : b < base) (hw : b < w.heap.size) : W.heap[b]? = w.heap[b]? :=
  h.1.block b hw fun e' => by have := own_base ho e'.symm; omega
theorem GrowV.below {w W : World} {ov ov' : Value} {base n : Nat} {xs : List Value} {e : TypeId} {size : Nat} (h : GrowV w W ov ov') (ho : w.ownsRow base e size ov n xs) (hb : base ≤ w.heap.size) : Below base w W :=
  (Below.refl base w).grown h.1 hb (fun _ e' => own_base ho e')
theorem growA {W W' w10 : World} {ov : Value} {g m cap H : Nat} (hb : Below W.heap.size W W') (hgrow : W'.grownBy w10 ov.ownBlock) (hat : ov.ownBlock = some g ∨ g = H) (hH : W.heap.size ≤ H) : GrowV W w10 ov (.slice (some ⟨g, 0, none⟩) m cap) := by
  refine ⟨(GrowV.trans (GrowV.bl ov hb) (⟨hgrow, fun _ h => .inl h⟩ : GrowV W' w10 ov ov)).1, fun j hj => ?_⟩
  obtain rfl : g = j := by simpa [Value.ownBlock] using hj
  rcases hat with h | h
  · exact .inl h
  · exact .inr (by omega)
theorem alloc2_old (w : World) (a b : Obj) : ((w.alloc a).alloc b).heap[w.heap.size]? = some a := (Below.heap_alloc _ b _ (by rw [World.size_alloc]; omega)).trans (heap_alloc_new w a)
theorem alloc2_new (w : World) (a b : Obj) : ((w.alloc a).alloc b).heap[w.heap.size + 1]? = some b := by
  have := heap_alloc_new (w.alloc a) b
  rwa [World.size_alloc] at this
theorem own_lt {W : World} {base e size n : Nat} {v : Value} {xs : List Value} (h : W.ownsRow base e size v n xs) {g : Nat} (hg : v.ownBlock = some g) : g < W.heap.size := by
  obtain ⟨_, cs, hcs⟩ := owned_cells h hg
  exact (Array.getElem?_eq_some_iff.1 hcs).1
end Go.Proofs.YtopbmndjnjnmcaaGreatDoor
/- (W8body) -/
namespace Go.Proofs.YtopbmndjnjnmcaaGreatDoor
open Go.RowKit Lx
attribute [local go_sem] Oper.semAt_some

theorem info9z : (Tryz.prog.info? 9).map (fun i => (i.zero, i.size, i.bytes)) = some (some (.string ⟨#[]⟩), 1, 16) := by kernel_rfl
end Go.Proofs.YtopbmndjnjnmcaaGreatDoor

/- Package fragment: what has been read is read back as the same; Alike of equal lists; the walk of FragBack. -/
/- (P9x) -/
namespace Go.Proofs.YtopbmndjnjnmcaaGreatDoor
open Go.RowKit Lx
theorem ba_ext {s t : ByteArray} (h : s.toList = t.toList) : s = t := by
  rw [toList_data, toList_data] at h
  cases s; cases t
  simp only [ByteArray.mk.injEq]
  exact Array.toList_inj.1 h
/-- What a reader looks at in a token. -/
def tK (t : Tok) : Int × ByteArray := (t.kind, t.text)
theorem isNm_K (t : Tok) (nm : ByteArray) : isNm t nm = true ↔ tK t = (1, nm) := by
  unfold isNm tK
  simp only [Bool.and_eq_true, beq_iff_eq, Prod.mk.injEq]
  constructor
  · rintro ⟨h1, h2⟩; exact ⟨h1, ba_ext h2⟩
  · rintro ⟨h1, h2⟩; exact ⟨h1, by rw [h2]⟩
theorem isCl_iff (t : Tok) : isCl t = true ↔ t.text = bs1 41 ∨ t.text = bs1 93 ∨ t.text = bs1 125 ∨ t.text = tEnd := by
  unfold isCl
  rw [Lib.containsS_iff]
  simp

/-- All tokens of fragments, whatever their depth. -/
def toksU : List Fr → List Tok
  | [] => []
  | .mk t op ks :: r => (if op.toList = [] then [t] else t :: (toksU ks ++ [closeTok t op])) ++ toksU r
def tokFU (f : Fr) : List Tok := if f.op.toList = [] then [f.tok] else f.tok :: (toksU f.kids ++ [closeTok f.tok f.op])
theorem toksU_cons (f : Fr) (r : List Fr) : toksU (f :: r) = tokFU f ++ toksU r := by cases f; rw [toksU]; rfl
theorem toksU_app : ∀ a b : List Fr, toksU (a ++ b) = toksU a ++ toksU b
  | [], b => by simp [toksU]
  | f :: a, b => by rw [List.cons_append, toksU_cons, toksU_cons, toksU_app a b, List.append_assoc]
theorem toksU_P : ∀ (n : Nat) (l : List Fr) (d : Nat), fsz l < n → d + dep l ≤ 101 → toksP d l = toksU l
  | 0, _, _, h, _ => absurd h (Nat.not_lt_zero _)
  | n + 1, [], d, _, _ => by rw [toksP, toksU]
  | n + 1, f :: r, d, hn, hd => by
    rw [fsz_cons] at hn
    rw [dep_cons] at hd
    rw [toksP_cons, toksU_cons, toksU_P n r d (by omega) (by omega)]
    congr 1
    unfold tokF tokFU
    by_cases ho : f.op.toList = []
    · rw [if_pos ho, if_pos ho]
    · rw [if_neg ho] at hd
      rw [if_neg ho, if_neg ho, if_pos (by omega), toksU_P n f.kids (d + 1) (by omega) (by omega)]

/-- The tokens of the groups of a reader, the innermost one first. -/
def emL : List Grp → List Tok
  | [] => []
  | [g] => toksU g.kids
  | g :: g2 :: r => emL (g2 :: r) ++ (g.tok :: toksU g.kids)
theorem emL_add (g : Grp) (f : Fr) (r : List Grp) : emL (addF g f :: r) = emL (g :: r) ++ toksU [f] := by
  cases r with
  | nil => simp only [emL, addF, toksU_app]
  | cons a b => simp only [emL, addF, toksU_app, List.append_assoc, List.cons_append]
theorem toksU_one (f : Fr) : toksU [f] = tokFU f := by rw [toksU_cons, toksU, List.append_nil]

/-- What holds of the groups: all but the outermost one have an opening, which is their valid token's text; the outermost one has none; no fragment without groups closes. -/
structure GI (ws : List ByteArray) (l : List Grp) : Prop where
  grp : ∀ g ∈ l.dropLast, g.op = g.tok.text ∧ tokOk g.tok = true ∧ (clo ws g.op.toList).isSome = true
  last : (l.getLast?.map Grp.op) = some ⟨#[]⟩
  kid : ∀ g ∈ l, ∀ f ∈ g.kids, f.op.toList = [] → isCl f.tok = false
theorem GI.add {ws : List ByteArray} {g : Grp} {r : List Grp} {f : Fr} (h : GI ws (g :: r)) (hf : f.op.toList = [] → isCl f.tok = false) : GI ws (addF g f :: r) := by
  obtain ⟨h1, h2, h3⟩ := h
  refine ⟨?_, ?_, ?_⟩
  · cases r with
    | nil => intro x hx; cases hx
    | cons a b =>
      intro x hx
      rw [List.dropLast_cons_cons] at hx
      rcases List.mem_cons.1 hx with rfl | hx
      · exact h1 g (by rw [List.dropLast_cons_cons]; exact List.mem_cons_self)
      · exact h1 x (by rw [List.dropLast_cons_cons]; exact List.mem_cons_of_mem _ hx)
  · cases r with
    | nil => exact h2
    | cons a b => simpa [List.getLast?_cons_cons] using h2
  · intro x hx f' hf' ho
    rcases List.mem_cons.1 hx with rfl | hx
    · rcases List.mem_append.1 hf' with h | h
      · exact h3 g List.mem_cons_self f' h ho
      · obtain rfl := List.mem_singleton.1 h
        exact hf ho
    · exact h3 x (List.mem_cons_of_mem _ hx) f' hf' ho
theorem GI.pop {ws : List ByteArray} {g g2 : Grp} {r : List Grp} (h : GI ws (g :: g2 :: r)) : GI ws (g2 :: r) ∧ g.op = g.tok.text ∧ tokOk g.tok = true ∧ (clo ws g.op.toList).isSome = true := by
  obtain ⟨h1, h2, h3⟩ := h
  refine ⟨⟨fun x hx => h1 x (by rw [List.dropLast_cons_cons]; exact List.mem_cons_of_mem _ hx), by simpa [List.getLast?_cons_cons] using h2, fun x hx => h3 x (List.mem_cons_of_mem _ hx)⟩, h1 g (by rw [List.dropLast_cons_cons]; exact List.mem_cons_self)⟩
theorem GI.push {ws : List ByteArray} {g g2 : Grp} {r : List Grp} (h : GI ws (g2 :: r)) (h1 : g.op = g.tok.text) (h2 : tokOk g.tok = true) (h3 : (clo ws g.op.toList).isSome = true) (h4 : g.kids = []) : GI ws (g :: g2 :: r) := by
  obtain ⟨a1, a2, a3⟩ := h
  refine ⟨?_, by simpa [List.getLast?_cons_cons] using a2, ?_⟩
  · intro x hx
    rw [List.dropLast_cons_cons] at hx
    rcases List.mem_cons.1 hx with rfl | hx
    · exact ⟨h1, h2, h3⟩
    · exact a1 x hx
  · intro x hx f hf ho
    rcases List.mem_cons.1 hx with rfl | hx
    · rw [h4] at hf; cases hf
    · exact a3 x hx f hf ho
theorem GI.base {ws : List ByteArray} {g : Grp} (h : GI ws [g]) : g.op = ⟨#[]⟩ := by simpa using h.last
section
variable {ts : List Tok} {ws : List ByteArray}
theorem pDrop_at : ∀ {k : Nat} {s s' : Rst}, pDrop ts k s = .ok s' → s'.at_ = s.at_ + k
  | 0, _, _, h => by cases h; rfl
  | k + 1, s, s', h => by
    simp only [pDrop] at h
    split at h
    · split at h
      · have := pDrop_at h
        simp only at this; omega
      · cases h
    · cases h
/-- What find? finds in the law's lists of names. -/
def dropN (ts : List Tok) (s : Rst) : Option (List ByteArray) := (repeats s.g.op s.g.kids).find? (fun names => nextAre ts s.at_ names && stopsAt ts (s.at_ + 1 + names.length))
/-- The three ways of a step. -/
theorem pTake_cases {s s' : Rst} {t : Tok} (ht : ts[s.at_]? = some t) (h : pTake ts ws s = .ok s') :
    (isCl t = true ∧ ∃ g2 rest, s.stk = g2 :: rest ∧ (closeTok s.g.tok s.g.op).text = t.text ∧ s'.g = addF g2 (.mk s.g.tok s.g.op s.g.kids) ∧ s'.stk = rest ∧
      ((clo ws s.g.op.toList = some false ∧ s'.at_ = s.at_) ∨ (clo ws s.g.op.toList = some true ∧ ((dropN ts s = none ∧ s'.at_ = s.at_) ∨ ∃ names, dropN ts s = some names ∧ s'.at_ = s.at_ + names.length)))) ∨
    (isCl t = false ∧ pOpens ts ws s t = true ∧ s.stk.length + 1 ≤ 100 ∧ s' = ⟨s.at_, ⟨t, t.text, [], s.at_⟩, s.g :: s.stk⟩) ∨
    (isCl t = false ∧ pOpens ts ws s t = false ∧ s' = ⟨s.at_, addF s.g (.mk t ⟨#[]⟩ []), s.stk⟩) := by
  have hE : ∀ s1, pEnd ts s = .ok s1 → ∃ g2 rest, s.stk = g2 :: rest ∧ (closeTok s.g.tok s.g.op).text = t.text ∧ s1.g = addF g2 (.mk s.g.tok s.g.op s.g.kids) ∧ s1.stk = rest ∧ s1.at_ = s.at_ := fun s1 he => by
    unfold pEnd at he
    rw [ht] at he
    cases hk : s.stk with
    | nil => rw [hk] at he; cases he
    | cons g2 rest =>
      rw [hk] at he
      simp only at he
      split at he
      · cases he
      · rename_i hne
        cases he
        exact ⟨g2, rest, rfl, ba_ext (by simpa using hne), rfl, rfl, rfl⟩
  unfold pTake at h
  rw [ht] at h
  simp only at h
  cases hc : isCl t with
  | true =>
    rw [hc] at h
    simp only [if_true] at h
    refine .inl ⟨rfl, ?_⟩
    cases hcl : clo ws s.g.op.toList with
    | none => rw [hcl] at h; cases h
    | some b =>
      rw [hcl] at h
      cases b with
      | false =>
        obtain ⟨g2, rest, h1, h2, h3, h4, h5⟩ := hE s' h
        exact ⟨g2, rest, h1, h2, h3, h4, .inl ⟨rfl, h5⟩⟩
      | true =>
        simp only at h
        unfold pNamed at h
        cases he : pEnd ts s with
        | bad e i => rw [he] at h; cases h
        | ok s1 =>
          rw [he] at h
          simp only at h
          obtain ⟨g2, rest, h1, h2, h3, h4, h5⟩ := hE s1 he
          cases hf : dropN ts s with
          | none =>
            unfold dropN at hf
            rw [hf] at h
            cases h
            exact ⟨g2, rest, h1, h2, h3, h4, .inr ⟨rfl, .inl ⟨rfl, h5⟩⟩⟩
          | some names =>
            unfold dropN at hf
            rw [hf] at h
            simp only at h
            obtain ⟨a, b, _⟩ := pDrop_same h
            have := pDrop_at h
            exact ⟨g2, rest, h1, h2, a.trans h3, b.trans h4, .inr ⟨rfl, .inr ⟨names, rfl, by omega⟩⟩⟩
  | false =>
    rw [hc] at h
    simp only [Bool.false_eq_true, if_false] at h
    cases ho : pOpens ts ws s t with
    | true =>
      rw [ho] at h
      simp only [if_true] at h
      split at h
      · cases h
      · cases h; exact .inr (.inl ⟨rfl, rfl, by omega, rfl⟩)
    | false =>
      rw [ho] at h
      simp only [Bool.false_eq_true, if_false] at h
      cases h; exact .inr (.inr ⟨rfl, rfl, rfl⟩)

def emTok (s : Rst) (t : Tok) : Tok := if isCl t = true then closeTok s.g.tok s.g.op else t
def adv (s : Rst) : Rst := { s with at_ := s.at_ + 1 }
structure Inv (ws : List ByteArray) (s : Rst) : Prop where
  gi : GI ws (s.g :: s.stk)
  top : s.g.op.toList ≠ [] → (s.g.kids = [] ∧ s.g.from_ + 1 = s.at_) ∨ (s.g.kids ≠ [] ∧ s.g.from_ + 1 < s.at_)
  low : ∀ g ∈ s.stk, g.op.toList ≠ [] → g.from_ + 1 < s.at_
theorem closeTok_kind {t t2 : Tok} {op : ByteArray} (h : (closeTok t op).text = t2.text) (h2 : tokOk t2 = true) : tK (closeTok t op) = tK t2 := by
  have hk : (qKind t2.text.data.toList : Int) = t2.kind := by
    unfold tokOk at h2
    simp only [Bool.and_eq_true, Bool.not_eq_true', bne_eq_false_iff_eq] at h2
    exact h2.1.1.1.2
  unfold tK
  rw [h]
  congr 1
  rw [← hk, ← h]
  unfold closeTok
  split
  · exact (by decide +kernel : (5 : Int) = (qKind (bs1 41).data.toList : Int))
  · split
    · exact (by decide +kernel : (5 : Int) = (qKind (bs1 93).data.toList : Int))
    · split
      · exact (by decide +kernel : (5 : Int) = (qKind (bs1 125).data.toList : Int))
      · exact (by decide +kernel : (1 : Int) = (qKind tEnd.data.toList : Int))
theorem closeTok_ok {t : Tok} (op : ByteArray) (h : tokOk t = true) : tokOk (closeTok t op) = true := by
  have hk : decide (t.at_ < 0) = false ∧ decide (t.mark < 0) = false := by
    unfold tokOk at h
    simp only [Bool.and_eq_true, Bool.not_eq_true'] at h
    exact ⟨h.1.2, h.2⟩
  have key : ∀ (k : Int) (x : ByteArray), (!((qKind x.data.toList : Int) == 0) && !((qKind x.data.toList : Int) != k) && !((0 : Int) != qValue (qKind x.data.toList) x.data.toList)) = true → tokOk ⟨k, 0, x, t.at_, t.mark⟩ = true := fun k x hx => by
    unfold tokOk
    simp only
    rw [hx, hk.1, hk.2]
    rfl
  unfold closeTok
  split
  · exact key _ _ (by decide +kernel)
  · split
    · exact key _ _ (by decide +kernel)
    · split
      · exact key _ _ (by decide +kernel)
      · exact key _ _ (by decide +kernel)
theorem opens_clo {s : Rst} {t : Tok} (h : pOpens ts ws s t = true) : (clo ws t.text.toList).isSome = true := by
  unfold pOpens at h
  simp only [Bool.and_eq_true] at h
  exact h.1
/-- **A STEP.** -/
theorem step_inv {s s' : Rst} {t : Tok} (hc0 : clo ws [] = none) (hi : Inv ws s) (ht : ts[s.at_]? = some t) (hok : tokOk t = true) (h : pTake ts ws s = .ok s') :
    Inv ws (adv s') ∧ emL (s'.g :: s'.stk) = emL (s.g :: s.stk) ++ [emTok s t] ∧ tK (emTok s t) = tK t ∧ tokOk (emTok s t) = true ∧ (isCl t = false → s'.at_ = s.at_) ∧ s.at_ ≤ s'.at_ := by
  have hne : ∀ {x : ByteArray}, (clo ws x.toList).isSome = true → x.toList ≠ [] := fun hs e => by rw [e, hc0] at hs; cases hs
  rcases pTake_cases ht h with ⟨hcl, g2, rest, h1, h2, h3, h4, h5⟩ | ⟨hcl, h1, h2, rfl⟩ | ⟨hcl, h1, rfl⟩
  · have hge : s.at_ ≤ s'.at_ := by
      rcases h5 with ⟨_, h⟩ | ⟨_, ⟨_, h⟩ | ⟨names, _, h⟩⟩ <;> omega
    have hem : emTok s t = closeTok s.g.tok s.g.op := if_pos hcl
    have hgi := hi.gi
    rw [h1] at hgi
    obtain ⟨p1, p2, p3, p4⟩ := hgi.pop
    refine ⟨⟨?_, ?_, ?_⟩, ?_, ?_, ?_, (fun h => by rw [hcl] at h; cases h), hge⟩
    · show GI ws (s'.g :: s'.stk)
      rw [h3, h4]
      exact p1.add fun ho => absurd ho (hne p4)
    · intro ho
      refine .inr ⟨by show s'.g.kids ≠ []; rw [h3]; simp [addF], ?_⟩
      have := hi.low g2 (by rw [h1]; exact List.mem_cons_self) (by show g2.op.toList ≠ []; have e : s'.g.op = g2.op := by rw [h3]; rfl
                                                                   rw [← e]; exact ho)
      show s'.g.from_ + 1 < ((s'.at_ + 1 : Nat) : Int)
      rw [h3]
      show g2.from_ + 1 < _
      omega
    · intro g hg ho
      have := hi.low g (by rw [h1]; exact List.mem_cons_of_mem _ (by rw [← h4]; exact hg)) ho
      show g.from_ + 1 < ((s'.at_ + 1 : Nat) : Int)
      omega
    · rw [h3, h4, emL_add, h1, hem, toksU_one]
      have e : tokFU (.mk s.g.tok s.g.op s.g.kids) = s.g.tok :: (toksU s.g.kids ++ [closeTok s.g.tok s.g.op]) := if_neg (hne p4)
      rw [e]
      show _ = (emL (g2 :: rest) ++ (s.g.tok :: toksU s.g.kids)) ++ _
      simp [List.append_assoc]
    · rw [hem]; exact closeTok_kind h2 hok
    · rw [hem]; exact closeTok_ok _ p3
  · have hem : emTok s t = t := if_neg (by rw [hcl]; simp)
    refine ⟨⟨?_, ?_, ?_⟩, ?_, by rw [hem], by rw [hem]; exact hok, fun _ => rfl, Nat.le_refl _⟩
    · exact hi.gi.push rfl hok (opens_clo h1) rfl
    · intro _
      exact .inl ⟨rfl, rfl⟩
    · intro g hg ho
      show g.from_ + 1 < ((s.at_ + 1 : Nat) : Int)
      rcases List.mem_cons.1 hg with rfl | hg
      · rcases hi.top ho with ⟨_, h⟩ | ⟨_, h⟩ <;> omega
      · have := hi.low g hg ho; omega
    · rw [hem]
      show emL (_ :: s.g :: s.stk) = _
      simp [emL, toksU]
  · have hem : emTok s t = t := if_neg (by rw [hcl]; simp)
    refine ⟨⟨?_, ?_, ?_⟩, ?_, by rw [hem], by rw [hem]; exact hok, fun _ => rfl, Nat.le_refl _⟩
    · exact hi.gi.add fun _ => hcl
    · intro ho
      refine .inr ⟨by simp [adv, addF], ?_⟩
      show s.g.from_ + 1 < ((s.at_ + 1 : Nat) : Int)
      rcases hi.top ho with ⟨_, h⟩ | ⟨_, h⟩ <;> omega
    · intro g hg ho
      have := hi.low g hg ho
      show g.from_ + 1 < ((s.at_ + 1 : Nat) : Int)
      omega
    · rw [emL_add, hem, toksU_one]
      unfold tokFU
      rw [if_pos (by exact nil_toList)]
      rfl
end
section
variable {ts : List Tok} {ws : List ByteArray}
def emit (ts : List Tok) (ws : List ByteArray) : Nat → Rst → List Tok
  | 0, _ => []
  | n + 1, s => if s.at_ < ts.length then (match ts[s.at_]?, pTake ts ws s with
      | some t, .ok s' => emTok s t :: emit ts ws n (adv s')
      | _, _ => []) else []
/-- A run that goes well. -/
structure Run (ts : List Tok) (ws : List ByteArray) (sf : Rst) (n : Nat) (s : Rst) : Prop where
  go : pGo ts ws n s = .ok sf
  fuel : ts.length ≤ s.at_ + n
  inv : Inv ws s
theorem Run.done {sf s : Rst} {n : Nat} (h : Run ts ws sf n s) (hl : ts.length ≤ s.at_) : sf = s ∧ emit ts ws n s = [] := by
  have hg := h.go
  cases n with
  | zero => simp only [pGo] at hg; cases hg; exact ⟨rfl, rfl⟩
  | succ n =>
    simp only [pGo] at hg
    rw [if_neg (by omega)] at hg
    cases hg
    exact ⟨rfl, by unfold emit; rw [if_neg (by omega)]⟩
theorem Run.step (hc0 : clo ws [] = none) {sf s : Rst} {n : Nat} (h : Run ts ws sf n s) (hl : s.at_ < ts.length) : ∃ t s1 m, n = m + 1 ∧ ts[s.at_]? = some t ∧ tokOk t = true ∧ pTake ts ws s = .ok s1 ∧ emit ts ws n s = emTok s t :: emit ts ws m (adv s1) ∧ Run ts ws sf m (adv s1) := by
  obtain ⟨hg, hf, hi⟩ := h
  cases n with
  | zero => omega
  | succ n =>
    have ht := List.getElem?_eq_getElem hl
    simp only [pGo] at hg
    rw [if_pos hl] at hg
    split at hg
    · rename_i hck
      unfold pCheck at hck
      rw [ht] at hck
      cases hp : pTake ts ws s with
      | bad e i => rw [hp] at hg; cases hg
      | ok s1 =>
        rw [hp] at hg
        obtain ⟨h1, _, _, _, _, h6⟩ := step_inv hc0 hi ht hck hp
        refine ⟨_, s1, n, rfl, ht, hck, rfl, ?_, hg, by show ts.length ≤ s1.at_ + 1 + n; omega, h1⟩
        simp only [emit]
        rw [if_pos hl, ht, hp]
    · cases hg
theorem nextAre_hd {l : List Tok} {i : Nat} {a : ByteArray} {r : List ByteArray} : nextAre l i (a :: r) = true ↔ (l[i + 1]?).map tK = some (1, a) ∧ nextAre l (i + 1) r = true := by
  simp only [nextAre, Bool.and_eq_true]
  cases l[i + 1]? with
  | none => simp
  | some t => simp [isNm_K]
end
section
variable {ts : List Tok} {ws : List ByteArray}
def er (g : Grp) : Tok × ByteArray × List Fr := (g.tok, g.op, g.kids)
end
section
variable {ts : List Tok} {ws : List ByteArray}
theorem Run.em (hc0 : clo ws [] = none) {sf : Rst} : ∀ {n : Nat} {s : Rst}, Run ts ws sf n s → emL (sf.g :: sf.stk) = emL (s.g :: s.stk) ++ emit ts ws n s ∧ (emit ts ws n s).length + s.at_ ≤ max ts.length s.at_
  | 0, s, h => by
    obtain ⟨rfl, he⟩ := h.done h.fuel
    rw [he]
    exact ⟨by simp, by simp; omega⟩
  | n + 1, s, h => by
    by_cases hl : s.at_ < ts.length
    · obtain ⟨t, s1, k, hk, ht, hok, hp, he, hr1⟩ := h.step hc0 hl
      obtain rfl : n = k := by omega
      obtain ⟨_, h2, _, _, _, h6⟩ := step_inv hc0 h.inv ht hok hp
      obtain ⟨i1, i2⟩ := Run.em hc0 hr1
      rw [he, i1]
      refine ⟨by show emL (s1.g :: s1.stk) ++ _ = _; rw [h2, List.append_assoc]; rfl, ?_⟩
      have : (adv s1).at_ = s1.at_ + 1 := rfl
      rw [this] at i2
      simp only [List.length_cons]
      omega
    · obtain ⟨rfl, he⟩ := h.done (by omega)
      rw [he]
      exact ⟨by simp, by simp; omega⟩
/-- How deep the groups are. -/
def DL : List Grp → Prop
  | [] => True
  | g :: r => dep g.kids + r.length ≤ 100 ∧ DL r
theorem dep_app : ∀ a b : List Fr, dep (a ++ b) = max (dep a) (dep b)
  | [], b => by simp [dep]
  | f :: a, b => by rw [List.cons_append, dep_cons, dep_cons, dep_app a b]; omega
theorem dep_one (f : Fr) : dep [f] = if f.op.toList = [] then 0 else 1 + dep f.kids := by rw [dep_cons, dep]; omega
theorem pTake_DL {s s' : Rst} {t : Tok} (ht : ts[s.at_]? = some t) (h : pTake ts ws s = .ok s') (hd : DL (s.g :: s.stk)) : DL (s'.g :: s'.stk) := by
  rcases pTake_cases ht h with ⟨_, g2, rest, h1, _, h3, h4, _⟩ | ⟨_, _, h2, rfl⟩ | ⟨_, _, rfl⟩
  · rw [h1] at hd
    obtain ⟨d1, d2, d3⟩ := hd
    rw [h3, h4]
    refine ⟨?_, d3⟩
    show dep (g2.kids ++ [_]) + rest.length ≤ 100
    rw [dep_app, dep_one]
    simp only [List.length_cons] at d1
    split
    · omega
    · show max (dep g2.kids) (1 + dep s.g.kids) + rest.length ≤ 100
      omega
  · exact ⟨by show dep [] + (s.g :: s.stk).length ≤ 100; rw [dep, List.length_cons]; omega, hd⟩
  · obtain ⟨d1, d2⟩ := hd
    refine ⟨?_, d2⟩
    show dep (s.g.kids ++ [_]) + s.stk.length ≤ 100
    rw [dep_app, dep_one, if_pos (by exact nil_toList)]
    omega
theorem Run.DL (hc0 : clo ws [] = none) {sf : Rst} : ∀ {n : Nat} {s : Rst}, Run ts ws sf n s → DL (s.g :: s.stk) → DL (sf.g :: sf.stk)
  | 0, s, h, hd => by
    obtain ⟨rfl, _⟩ := h.done h.fuel
    exact hd
  | n + 1, s, h, hd => by
    by_cases hl : s.at_ < ts.length
    · obtain ⟨t, s1, k, hk, ht, hok, hp, _, hr1⟩ := h.step hc0 hl
      obtain rfl : n = k := by omega
      have h2 := pTake_DL ht hp hd
      exact Run.DL hc0 hr1 h2
    · obtain ⟨rfl, _⟩ := h.done (by omega)
      exact hd

theorem nextAre_names : ∀ {names : List ByteArray} {i : Nat}, nextAre ts i names = true → ∀ j, j < names.length → ∃ t, ts[i + 1 + j]? = some t ∧ t.kind = 1
  | [], _, _, j, hj => by cases hj
  | a :: r, i, h, j, hj => by
    obtain ⟨h1, h2⟩ := nextAre_hd.1 h
    cases j with
    | zero =>
      cases ht : ts[i + 1]? with
      | none => rw [ht] at h1; cases h1
      | some t =>
        rw [ht] at h1
        simp only [Option.map_some, Option.some.injEq] at h1
        exact ⟨t, rfl, congrArg Prod.fst h1⟩
    | succ j =>
      obtain ⟨t, a, b⟩ := nextAre_names h2 j (by simpa using hj)
      exact ⟨t, by rw [show i + 1 + (j + 1) = i + 1 + 1 + j by omega]; exact a, b⟩
end
theorem st0_inv (ws : List ByteArray) : Inv ws st0 := by
  refine ⟨⟨fun g hg => ?_, rfl, fun g hg f hf => ?_⟩, fun h => absurd nil_toList h, fun g hg => ?_⟩
  · cases hg
  · obtain rfl := List.mem_singleton.1 hg
    cases hf
  · cases hg
end Go.Proofs.YtopbmndjnjnmcaaGreatDoor
/- (A1body) -/
namespace Go.Proofs.YtopbmndjnjnmcaaGreatDoor
open Go.RowKit Lx
attribute [local go_sem] Oper.semAt_some

set_option maxRecDepth 100000 in
set_option maxHeartbeats 8000000 in
/-- **Alike**, strict, of equal lists -/
theorem alikeS_any (S S2 : Nat → Prop) : ∀ (n : Nat) (l : List Fr) (v v2 : Value) (w : World), fsz l < n → FrRead w S v l → FrRead w S2 v2 l →
    Calls Tryz.prog 20 #[v, v2, .bool false] w fun e W => e = .returned (.bool true) ∧ Below w.heap.size w W := by
  intro n
  induction n with
  | zero => intro l v v2 w h; omega
  | succ n ih =>
    intro l v v2 w hn hr hr2
    obtain ⟨va, vc, vg, vo, rfl, ⟨hm1, hm2⟩, ha, hat⟩ := hr
    obtain ⟨ua, uc, ug, uo, rfl, ⟨hu1, hu2⟩, hua, huat⟩ := hr2
    have HAT := Lib.hid hat
    have HA := Lib.hid ha
    have HUT := Lib.hid huat
    have HU := Lib.hid hua
    unfold maxLen at hm1 hu1
    clear hat ha huat hua
    go_enter Tryz.func20, Tryz.ntmps20
    go_wp2_with fail
    go_loopw [7] (fun x wr => ∃ (k : Nat), k ≤ l.length ∧ x = .int .i64 k ∧ Hid (Below w.heap.size w wr)) (fun x _ => l.length - (intOf x).toNat)
    case atStart => exact ⟨0, by omega, rfl, Lib.hid (Below.refl _ _)⟩
    case round =>
      obtain ⟨k, hk, rfl, HB⟩ := hrel
      by_cases hlt : k < l.length
      · obtain ⟨f, hf⟩ : ∃ f, l[k]? = some f := ⟨_, List.getElem?_eq_getElem hlt⟩
        have hva : va = some ⟨vg, vo, none⟩ := HA.out (by intro h; rw [h] at hlt; simp at hlt)
        have hua : ua = some ⟨ug, uo, none⟩ := HU.out (by intro h; rw [h] at hlt; simp at hlt)
        subst hva hua
        obtain ⟨kv, hs, hg, c0, c1, c2, c3, c4, c5, c6, hkr⟩ := HAT.out.get hf
        obtain ⟨kv2, hs2, hgu, d0, d1, d2, d3, d4, d5, d6, hkr2⟩ := HUT.out.get hf
        have hfn : fsz f.kids < n := by have := fsz_kids hf; omega
        obtain ⟨tk, htk⟩ : ∃ t, f.tok.kind = t := ⟨_, rfl⟩
        obtain ⟨tn, htn⟩ : ∃ t, f.tok.num = t := ⟨_, rfl⟩
        obtain ⟨tt, htt⟩ : ∃ t, f.tok.text = t := ⟨_, rfl⟩
        obtain ⟨ta, hta⟩ : ∃ t, f.tok.at_ = t := ⟨_, rfl⟩
        obtain ⟨tm, htm⟩ : ∃ t, f.tok.mark = t := ⟨_, rfl⟩
        obtain ⟨fo, hfo⟩ : ∃ t, f.op = t := ⟨_, rfl⟩
        rw [htk] at c0 d0
        rw [htn] at c1 d1
        rw [htt] at c2 d2
        rw [hta] at c3 d3
        rw [htm] at c4 d4
        rw [hfo] at c5 d5
        have m0 := (HB.out.cell (p := ⟨vg, vo + k * 7, none⟩) hg).trans c0
        have m1 := (HB.out.cell (p := ⟨vg, vo + k * 7 + 1, none⟩) hg).trans c1
        have m2 := (HB.out.cell (p := ⟨vg, vo + k * 7 + 2, none⟩) hg).trans c2
        have m3 := (HB.out.cell (p := ⟨vg, vo + k * 7 + 3, none⟩) hg).trans c3
        have m4 := (HB.out.cell (p := ⟨vg, vo + k * 7 + 4, none⟩) hg).trans c4
        have h1 := (Below.refl wr.heap.size wr).alloc (Nat.le_refl _) (.cells #[.int .i64 tk, .int .i64 tn, .string tt, .int .i64 ta, .int .i64 tm] 50)
        have b1 := HB.out.trans (h1.mono HB.out.size)
        have n0 := (b1.cell (p := ⟨ug, uo + k * 7, none⟩) hgu).trans d0
        have n1 := (b1.cell (p := ⟨ug, uo + k * 7 + 1, none⟩) hgu).trans d1
        have n2 := (b1.cell (p := ⟨ug, uo + k * 7 + 2, none⟩) hgu).trans d2
        have n3 := (b1.cell (p := ⟨ug, uo + k * 7 + 3, none⟩) hgu).trans d3
        have n4 := (b1.cell (p := ⟨ug, uo + k * 7 + 4, none⟩) hgu).trans d4
        have h2 := (Below.refl _ (wr.alloc (.cells #[.int .i64 tk, .int .i64 tn, .string tt, .int .i64 ta, .int .i64 tm] 50))).alloc (Nat.le_refl _) (.cells #[.int .i64 tk, .int .i64 tn, .string tt, .int .i64 ta, .int .i64 tm] 50)
        have b2 := b1.trans (h2.mono b1.size)
        have q5 := (b2.cell (p := ⟨vg, vo + k * 7 + 5, none⟩) hg).trans c5
        have q6 := (b2.cell (p := ⟨vg, vo + k * 7 + 6, none⟩) hg).trans c6
        have r5 := (b2.cell (p := ⟨ug, uo + k * 7 + 5, none⟩) hgu).trans d5
        have r6 := (b2.cell (p := ⟨ug, uo + k * 7 + 6, none⟩) hgu).trans d6
        have k1 : (k : Int) < (l.length : Int) := by omega
        have hlw : wr.heap.size = wr.heap.size := rfl
        have HIH := Lib.hid (fun (W : World) (hb : Below w.heap.size w W) => ih f.kids kv kv2 W hfn (hkr.bl hb) (hkr2.bl hb))
        have z5 : (((wr.alloc (.cells #[.int .i64 tk, .int .i64 tn, .string tt, .int .i64 ta, .int .i64 tm] 50)).alloc (.cells #[.int .i64 tk, .int .i64 tn, .string tt, .int .i64 ta, .int .i64 tm] 50)).drew).cell? ⟨vg, vo + k * 7 + 5, none⟩ = some (.string fo) := q5
        have z6 : (((wr.alloc (.cells #[.int .i64 tk, .int .i64 tn, .string tt, .int .i64 ta, .int .i64 tm] 50)).alloc (.cells #[.int .i64 tk, .int .i64 tn, .string tt, .int .i64 ta, .int .i64 tm] 50)).drew).cell? ⟨vg, vo + k * 7 + 6, none⟩ = some kv := q6
        have x5 : (((wr.alloc (.cells #[.int .i64 tk, .int .i64 tn, .string tt, .int .i64 ta, .int .i64 tm] 50)).alloc (.cells #[.int .i64 tk, .int .i64 tn, .string tt, .int .i64 ta, .int .i64 tm] 50)).drew).cell? ⟨ug, uo + k * 7 + 5, none⟩ = some (.string fo) := r5
        have x6 : (((wr.alloc (.cells #[.int .i64 tk, .int .i64 tn, .string tt, .int .i64 ta, .int .i64 tm] 50)).alloc (.cells #[.int .i64 tk, .int .i64 tn, .string tt, .int .i64 ta, .int .i64 tm] 50)).drew).cell? ⟨ug, uo + k * 7 + 6, none⟩ = some kv2 := r6
        have BD := Lib.hid b2.drew
        clear c0 c1 c2 c3 c4 c5 c6 d0 d1 d2 d3 d4 d5 d6 hs hs2 hkr hkr2 h1 h2 b1 b2 hf htk htn htt hta htm hfo hfn hlw
        go_upto_region 9 with fail
        go_region_held3 (fun w' => w'.cell? ⟨vg, vo + k * 7 + 5, none⟩ = some (.string fo) ∧ w'.cell? ⟨vg, vo + k * 7 + 6, none⟩ = some kv ∧ w'.cell? ⟨ug, uo + k * 7 + 5, none⟩ = some (.string fo) ∧ w'.cell? ⟨ug, uo + k * 7 + 6, none⟩ = some kv2)
          (first | exact ⟨z5, z6, x5, x6⟩ | exact ⟨q5, q6, r5, r6⟩ | exact ⟨u5, u6, y5, y6⟩ | go_keep)
          (first
            | (go_at_call 20; go_must (refine (HIH.out _ BD.out).mono ?_); rintro e W5 ⟨rfl, hb5⟩; have B5 := Lib.hid (BD.out.trans (hb5.mono BD.out.size)); have u5 := (hb5.cell (p := ⟨vg, vo + k * 7 + 5, none⟩) (block_lt z5)).trans z5; have u6 := (hb5.cell (p := ⟨vg, vo + k * 7 + 6, none⟩) (block_lt z6)).trans z6; have y5 := (hb5.cell (p := ⟨ug, uo + k * 7 + 5, none⟩) (block_lt x5)).trans x5; have y6 := (hb5.cell (p := ⟨ug, uo + k * 7 + 6, none⟩) (block_lt x6)).trans x6))
        go_wp2_with fail
        go_roundw
        case rel => exact ⟨k + 1, by omega, rfl, B5⟩
        case measure => simp [intOf]; omega
      · obtain rfl : k = l.length := by omega
        go_wp2_with fail
        go_ret
        exact ⟨rfl, HB.out⟩
end Go.Proofs.YtopbmndjnjnmcaaGreatDoor
/- (P10body) -/
namespace Go.Proofs.YtopbmndjnjnmcaaGreatDoor
open Go.RowKit Lx
theorem TxtOk.app : ∀ {a b : List Fr}, TxtOk a → TxtOk b → TxtOk (a ++ b)
  | [], _, _, h => h
  | f :: a, b, h, hb => by
    obtain ⟨h1, h2, h3, h4⟩ := txtOk_cons.1 h
    rw [List.cons_append]
    exact txtOk_cons.2 ⟨h1, h2, h3, TxtOk.app h4 hb⟩
section
variable {ts : List Tok} {ws : List ByteArray}
end
end Go.Proofs.YtopbmndjnjnmcaaGreatDoor
/- (W7body) -/
namespace Go.Proofs.YtopbmndjnjnmcaaGreatDoor
open Go.RowKit Lx
attribute [local go_sem] Oper.semAt_some

end Go.Proofs.YtopbmndjnjnmcaaGreatDoor

/- Package fragment: the list of one reading behind that of another, a part of a reading; the reference's Size and Ends. -/
namespace Go.Proofs.YtopbmndjnjnmcaaGreatDoor
open Go.RowKit Lx
/- (P11) -/
section
variable {ts us : List Tok} {ws : List ByteArray}
end
/- (P12) -/
section
variable {ts tt : List Tok} {ws : List ByteArray}
end
/- (P13) -/
section
variable {ts us : List Tok} {ws : List ByteArray}
end
/- (P14) -/
section
variable {ts : List Tok} {ws : List ByteArray}
end
/- (P15) -/
attribute [local go_sem] Oper.semAt_some

theorem FrAt.cells {W : World} {S : Nat → Prop} : ∀ {l : List Fr} {g o : Nat}, FrAt W S g o l → ∃ xs, KidsC W S l xs ∧ ∀ j u, xs[j]? = some u → W.cell? ⟨g, o + j, none⟩ = some u
  | [], g, o, _ => ⟨[], rfl, fun j u h => by simp at h⟩
  | .mk t op ks :: l, g, o, h => by
    cases h with
    | @cons _ _ _ _ _ _ a c g' o' hs hg h0 h1 h2 h3 h4 h5 h6 hm ha hk hl =>
      obtain ⟨r, hr1, hr2⟩ := hl.cells
      refine ⟨frC t op (.slice a ks.length c) ++ r, ⟨_, r, rfl, ⟨a, c, g', o', rfl, hm, ha, hk⟩, hr1⟩, fun j u hj => ?_⟩
      rcases Nat.lt_or_ge j 7 with h7 | h7
      · rw [List.getElem?_append_left (by simpa [frC] using h7)] at hj
        match j, h7, hj with
        | 0, _, hj => cases hj; exact h0
        | 1, _, hj => cases hj; exact h1
        | 2, _, hj => cases hj; exact h2
        | 3, _, hj => cases hj; exact h3
        | 4, _, hj => cases hj; exact h4
        | 5, _, hj => cases hj; exact h5
        | 6, _, hj => cases hj; exact h6
      · rw [List.getElem?_append_right (by simpa [frC] using h7)] at hj
        have e : (frC t op (.slice a ks.length c)).length = 7 := rfl
        rw [e] at hj
        have := hr2 (j - 7) u hj
        rw [show o + j = o + 7 + (j - 7) by omega]
        exact this
theorem KidsC.app {W : World} {S : Nat → Prop} : ∀ {a b : List Fr} {xs ys : List Value}, KidsC W S a xs → KidsC W S b ys → KidsC W S (a ++ b) (xs ++ ys)
  | [], b, xs, ys, h, hb => by cases (h : xs = []); exact hb
  | f :: a, b, xs, ys, ⟨kv, r, hx, hf, hr⟩, hb => ⟨kv, r ++ ys, by rw [hx, List.append_assoc], hf, hr.app hb⟩
theorem KidsC.one {W : World} {S : Nat → Prop} : ∀ {a : List Fr} {xs : List Value}, KidsC W S a xs → ∀ u ∈ xs, u.oneCell' = true
  | [], xs, h, u, hu => by cases (h : xs = []); cases hu
  | f :: a, xs, ⟨kv, r, hx, hf, hr⟩, u, hu => by
    subst hx
    rcases List.mem_append.1 hu with h | h
    · obtain ⟨_, _, _, _, rfl, _⟩ := hf
      simp [frC] at h
      rcases h with rfl | rfl | rfl | rfl | rfl | rfl | rfl <;> rfl
    · exact hr.one u h
def IdxPost (ws : List ByteArray) (x : ByteArray) (w : World) (e : Ending) (W : World) : Prop :=
  ∃ r : Int, e = .returned (.int .i64 r) ∧ -1 ≤ r ∧ r ≤ 9223372036854775807 ∧ (0 ≤ r ↔ (ws.any fun y => y.toList == x.toList) = true) ∧ W = w

set_option maxRecDepth 100000 in
/-- **R01.Index**, whether there is one -/
theorem refIndex_any (v : Value) (ws : List ByteArray) (x : ByteArray) (w : World) (hr : StrRead w v ws) :
    Calls Tryz.prog 67 #[v, .string x] w (IdxPost ws x w) := by
  obtain ⟨a, c, rfl, ⟨h1, h2⟩, hc⟩ := hr
  have HC := Lib.hid hc
  unfold maxLen at h1
  clear hc
  go_enter Tryz.func67, Tryz.ntmps67
  go_wp2_with fail
  go_loop [5] (fun y => ∃ k : Nat, k ≤ ws.length ∧ y = .int .i64 k ∧ Hid (((ws.take k).any fun y => y.toList == x.toList) = false)) (fun y => ws.length - (intOf y).toNat)
  case atStart => exact ⟨0, by omega, rfl, Lib.hid (by simp)⟩
  case round =>
    obtain ⟨k, hk, rfl, HK⟩ := hrel
    by_cases hlt : k < ws.length
    · obtain ⟨y, hy⟩ : ∃ y, ws[k]? = some y := ⟨_, List.getElem?_eq_getElem hlt⟩
      obtain ⟨g, o, rfl, hg, c0⟩ := HC.out k y hy
      have HY := Lib.hid hy
      have k1 : (k : Int) < (ws.length : Int) := by omega
      clear hy
      cases e1 : (y.toList == x.toList)
      · go_wp2_with fail
        go_round
        case rel => exact ⟨k + 1, by omega, by go_num, Lib.hid (by rw [List.take_add_one, HY.out, List.any_append, HK.out]; simpa using e1)⟩
        case measure => simp [intOf]; omega
      · go_wp2_with fail
        go_ret
        refine ⟨k, rfl, by omega, by omega, ⟨fun _ => ?_, fun _ => by omega⟩, rfl⟩
        rw [List.any_eq_true]
        exact ⟨y, List.mem_of_getElem? HY.out, e1⟩
    · obtain rfl : k = ws.length := by omega
      have h := HK.out
      rw [List.take_length] at h
      have HH := Lib.hid h
      clear h
      go_wp2_with fail
      go_ret
      exact ⟨-1, rfl, by omega, by omega, ⟨fun h => by omega, fun h => by rw [HH.out] at h; cases h⟩, rfl⟩

/- (P16) -/
end Go.Proofs.YtopbmndjnjnmcaaGreatDoor
