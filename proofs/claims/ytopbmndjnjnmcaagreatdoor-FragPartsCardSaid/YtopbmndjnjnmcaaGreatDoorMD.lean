/- Package fragment: texts G6, G7, P4, G8, in one. -/
import Derived.Test.YtopbmndjnjnmcaaGreatDoorMA
import Derived.Test.YtopbmndjnjnmcaaGreatDoorMC
import Derived.Test.YtopbmndjnjnmcaaGreatDoorMB
import Derived.Deep.AppendLies
/- (G6) -/
/- Package fragment: the chapter's examples, reckoned. -/
namespace Go.Proofs.YtopbmndjnjnmcaaGreatDoor
open Go.RowKit Lx

attribute [local go_sem] Oper.semAt_some

def tkOfS (s : ByteArray) (p : Pc) : Tok := ⟨p.kind, qValue p.kind ((s.data.toList.drop p.at_).take p.len), pcText s p, p.at_, 0⟩
/-- The tokens of a text. -/
def scanToks (s : ByteArray) : List Tok := (qScan s.data.toList).map (tkOfS s)

theorem tksCells_at5 (s : ByteArray) : ∀ (ps : List Pc) (k : Nat) (p : Pc) (j : Nat), ps[k]? = some p → j < 5 → (tksCells s ps)[k * 5 + j]? = (tkCells s p)[j]?
  | [], k, p, j, h, _ => by simp at h
  | q :: r, 0, p, j, h, hj => by
    simp at h; subst h
    simp only [tksCells, Nat.zero_mul, Nat.zero_add]
    rw [List.getElem?_append_left (by simp [tkCells]; omega)]
  | q :: r, k + 1, p, j, h, hj => by
    simp only [tksCells]
    rw [List.getElem?_append_right (by simp [tkCells]; omega)]
    have : (k + 1) * 5 + j - (tkCells s q).length = k * 5 + j := by simp [tkCells]; omega
    rw [this]
    exact tksCells_at5 s r k p j (by simpa using h) hj
theorem toks_read {W : World} {base : Nat} {s : ByteArray} {v : Value} (h : W.ownsRow base 50 5 v (qScan s.data.toList).length (tksCells s (qScan s.data.toList))) : TokRead W v (scanToks s) := by
  have hl := scan_length s.data.toList
  have hlen : (scanToks s).length = (qScan s.data.toList).length := List.length_map _
  have hcl := h.1
  rcases h.2 with ⟨rfl, h0⟩ | ⟨g, cap, cur, rfl, hb, hg, hc, hm, hz, ht⟩
  · have hnil : qScan s.data.toList = [] := List.eq_nil_of_length_eq_zero (by
      have : (tksCells s (qScan s.data.toList)).length = 0 := by rw [hcl, h0, Nat.zero_mul]
      rw [tksCells_len] at this; omega)
    refine ⟨none, 0, by rw [hlen, hnil]; rfl, by rw [hlen, hnil]; simp, fun k t hk => ?_⟩
    unfold scanToks at hk
    rw [hnil] at hk
    simp at hk
  · refine ⟨_, cap, by rw [hlen], ⟨by rw [hlen]; unfold maxLen; omega, by rw [hlen]; exact hc⟩, fun k t hk => ⟨g, 0, rfl, (Array.getElem?_eq_some_iff.1 hg).1, ?_⟩⟩
    unfold scanToks at hk
    rw [List.getElem?_map, Option.map_eq_some_iff] at hk
    obtain ⟨p, hp, rfl⟩ := hk
    have hkl : k < (qScan s.data.toList).length := (List.getElem?_eq_some_iff.1 hp).1
    have e : ∀ j, j < 5 → W.cell? ⟨g, 0 + k * 5 + j, none⟩ = (tkCells s p)[j]? := fun j hj => by
      rw [Nat.zero_add, h.cellAt _ (by omega)]
      exact tksCells_at5 s _ k p j hp hj
    exact ⟨e 0 (by omega), e 1 (by omega), e 2 (by omega), e 3 (by omega), e 4 (by omega)⟩

theorem field94_0 (a b c : Value) (w : World) : (Instr.field 94 (.agg #[a, b, c]) 0).run Tryz.prog w = .ok a w := by kernel_rfl
attribute [local go_sem ↓] field94_0
set_option maxHeartbeats 1000000 in
/-- **scan** -/
theorem scan46_any (s : ByteArray) (hm : s.size ≤ maxLen) (w : World) :
    Calls Tryz.prog 46 #[.string s] w fun e W => ∃ v, e = .returned v ∧ TokRead W v (scanToks s) ∧ Below w.heap.size w W := by
  go_enter Tryz.func46, Tryz.ntmps46
  go_wp2_with fail
  go_at_call 68
  refine (refScan_any s hm _).mono ?_
  rintro e W ⟨v, rfl, ho, _, hb⟩
  have HR := Lib.hid (toks_read ho)
  obtain ⟨va, vn, vc, rfl⟩ := ownsRow_slice ho
  clear ho
  go_wp2_with fail
  go_ret
  exact ⟨_, rfl, HR.out, hb⟩

def fx1 : ByteArray := ⟨#[102, 40, 120, 44, 32, 91, 49, 93, 41]⟩
def fx2 : ByteArray := ⟨#[100, 101, 102, 105, 110, 101, 32, 109, 101, 116, 104, 111, 100, 32, 97, 114, 101, 97, 32, 40, 115, 41, 32, 115, 32, 101, 110, 100, 32, 109, 101, 116, 104, 111, 100, 32, 97, 114, 101, 97, 59]⟩
def fx3 : ByteArray := ⟨#[98, 101, 103, 105, 110, 32, 40, 101, 110, 100, 41]⟩
def fx4 : ByteArray := ⟨#[105, 102, 32, 40, 97, 41, 32, 98]⟩
def fx5 : ByteArray := ⟨#[119, 104, 105, 108, 101, 32, 40, 97, 41, 32, 98, 32, 101, 110, 100]⟩
def fx6 : ByteArray := ⟨#[99, 108, 97, 115, 115, 32, 115, 108, 111, 116, 32, 120]⟩
def tWhile : ByteArray := ⟨#[119, 104, 105, 108, 101]⟩
def chk1 (r : Rd) : Bool := match r with
  | .ok [.mk _ o0 _, .mk _ op [.mk _ o1 _, .mk _ o2 _, .mk _ op2 [.mk _ o3 _]]] => (op.toList == [40]) && (op2.toList == [91]) && (o0.toList == []) && (o1.toList == []) && (o2.toList == []) && (o3.toList == [])
  | _ => false
/-- What the first example is. -/
theorem chk1_out {r : Rd} (h : chk1 r = true) : ∃ (a f g : Fr) (k1 k2 : Fr), r = .ok [a, f] ∧ f.op.toList = [40] ∧ f.kids = [k1, k2, g] ∧ g.op.toList = [91] ∧ sizeP [a, f] = 8 ∧ depthP [a, f] = 2 := by
  unfold chk1 at h
  split at h
  · rename_i t0 o0 q0 t op t1 o1 q1 t2 o2 q2 t3 op2 t4 o3 q3
    simp only [Bool.and_eq_true, beq_iff_eq] at h
    obtain ⟨⟨⟨⟨⟨h1, h2⟩, h3⟩, h4⟩, h5⟩, h6⟩ := h
    refine ⟨_, _, _, _, _, rfl, h1, rfl, h2, ?_, ?_⟩
    · unfold sizeP
      simp [toksP, h1, h2, h3, h4, h5, h6]
    · unfold depthP
      simp [depF, h1, h2, h3, h4, h5, h6]
  · cases h
def chk2 (r : Rd) : Bool := match r with
  | .ok [_, .mk _ op [_, _, _], _] => op.toList == [109, 101, 116, 104, 111, 100]
  | _ => false
def chkB (r : Rd) (e : Nat) (i : Int) : Bool := match r with
  | .bad e' i' => (e' == e) && (i' == i)
  | _ => false
def chkN (r : Rd) (n : Nat) : Bool := match r with
  | .ok l => l.length == n
  | _ => false
theorem sx1 : chk1 (pRead (scanToks fx1) []) = true := by decide +kernel
theorem sx2 : chk2 (pRead (scanToks fx2) []) = true := by decide +kernel
theorem sx3 : chkB (pRead (scanToks fx3) []) 20 2 = true := by decide +kernel
theorem sx4 : chkB (pRead (scanToks fx4) []) 21 0 = true := by decide +kernel
theorem sx5 : chkN (pRead (scanToks fx5) [tWhile]) 1 = true := by decide +kernel
theorem sx6 : chkB (pRead (scanToks fx5) []) 20 5 = true := by decide +kernel
theorem sx7 : chkN (pRead (scanToks fx6) []) 3 = true := by decide +kernel
def small (ts : List Tok) : Bool := ts.all fun t => decide (t.text.size ≤ 100)
theorem small_ok {ts : List Tok} (h : small ts = true) : ∀ t ∈ ts, t.text.size ≤ maxLen := fun t ht => by
  unfold small at h
  rw [List.all_eq_true] at h
  have := of_decide_eq_true (h t ht)
  unfold maxLen; omega
theorem sm1 : small (scanToks fx1) = true := by decide +kernel
theorem sm2 : small (scanToks fx2) = true := by decide +kernel
theorem sm3 : small (scanToks fx3) = true := by decide +kernel
theorem sm4 : small (scanToks fx4) = true := by decide +kernel
theorem sm5 : small (scanToks fx5) = true := by decide +kernel
theorem sm6 : small (scanToks fx6) = true := by decide +kernel
end Go.Proofs.YtopbmndjnjnmcaaGreatDoor

/- (G7) -/
/- Package fragment: the chapter's examples hold. -/
namespace Go.Proofs.YtopbmndjnjnmcaaGreatDoor
open Go.RowKit Lx

attribute [local go_sem] Oper.semAt_some

theorem strs_nil (W : World) : StrRead W (.slice none 0 0) [] := ⟨none, 0, rfl, ⟨Nat.zero_le _, Nat.le_refl _⟩, fun k s h => by simp at h⟩
theorem chk2_out {r : Rd} (h : chk2 r = true) : ∃ (a f b k1 k2 k3 : Fr), r = .ok [a, f, b] ∧ f.op.toList = [109, 101, 116, 104, 111, 100] ∧ f.kids = [k1, k2, k3] := by
  unfold chk2 at h
  split at h
  · simp only [beq_iff_eq] at h
    exact ⟨_, _, _, _, _, _, rfl, h, rfl⟩
  · cases h
theorem chkB_out {r : Rd} {e : Nat} {i : Int} (h : chkB r e i = true) : r = .bad e i := by
  unfold chkB at h
  split at h
  · simp only [Bool.and_eq_true, beq_iff_eq] at h
    rw [h.1, h.2]
  · cases h
theorem chkN_out {r : Rd} {n : Nat} (h : chkN r n = true) : ∃ l, r = .ok l ∧ l.length = n := by
  unfold chkN at h
  split at h
  · simp only [beq_iff_eq] at h
    exact ⟨_, rfl, h⟩
  · cases h
/-- Read of a text's tokens, by what it gives. -/
theorem read_ok {ts : List Tok} {ws : List ByteArray} {l : List Fr} {w W : World} {e : Ending} (h : FrEnd (pRead ts ws) w e W) (hl : pRead ts ws = .ok l) : Below w.heap.size w W ∧ ∃ a c, e = .returned (.tuple #[.slice a l.length c, .int .i64 0, .int .i64 0]) ∧ FrRead W (fun _ => True) (.slice a l.length c) l := by
  rw [hl] at h
  obtain ⟨hb, v, rfl, hr⟩ := h
  have hr2 := hr
  obtain ⟨a, c, _, _, rfl, _⟩ := hr2
  exact ⟨hb, a, c, rfl, hr⟩
theorem read_bad {ts : List Tok} {ws : List ByteArray} {er : Nat} {i : Int} {w W : World} {e : Ending} (h : FrEnd (pRead ts ws) w e W) (hl : pRead ts ws = .bad er i) : Below w.heap.size w W ∧ e = .returned (.tuple #[.slice none 0 0, .int .i64 i, .int .i64 er]) := by
  rw [hl] at h; exact h
/-- The k-th fragment's opening and its list of fragments. -/
theorem FrRead.kid {W : World} {S : Nat → Prop} {a : Option Addr} {n c : Nat} {l : List Fr} (h : FrRead W S (.slice a n c) l) {k : Nat} {f : Fr} (hk : l[k]? = some f) : ∃ g o ka kc, a = some ⟨g, o, none⟩ ∧ W.cell? ⟨g, o + k * 7 + 5, none⟩ = some (.string f.op) ∧
    W.cell? ⟨g, o + k * 7 + 6, none⟩ = some (.slice ka f.kids.length kc) ∧ FrRead W S (.slice ka f.kids.length kc) f.kids := by
  obtain ⟨a', c', g, o, hv, _, ha, hat⟩ := h
  obtain ⟨kv, _, _, _, _, _, _, _, h5, h6, hr⟩ := hat.get hk
  have hr2 := hr
  obtain ⟨ka, kc, _, _, rfl, _⟩ := hr2
  simp only [Value.slice.injEq] at hv
  exact ⟨g, o, ka, kc, hv.1.trans (ha (by intro h0; rw [h0] at hk; cases hk)), h5, h6, hr⟩

set_option maxRecDepth 100000 in
set_option maxHeartbeats 8000000 in
theorem sane02_any (w : World) (he : Env w) : Calls Tryz.prog 14 #[] w fun e W => e = .returned (.bool true) ∧ Below w.heap.size w W := by
  have HE := Lib.hid he
  obtain ⟨a1, f1, g1, k11, k12, hra1, hop1, hkd1, hog1, hsz1, hdp1⟩ := chk1_out sx1
  obtain ⟨a2, f2, b2, k21, k22, k23, hra2, hop2, hkd2⟩ := chk2_out sx2
  have hra3 := chkB_out sx3
  have hra4 := chkB_out sx4
  obtain ⟨l5, hra5, hl5⟩ := chkN_out sx5
  have hra6 := chkB_out sx6
  obtain ⟨l7, hra7, hl7⟩ := chkN_out sx7
  have R1 := Lib.hid hra1
  have R2 := Lib.hid hra2
  have R3 := Lib.hid hra3
  have R4 := Lib.hid hra4
  have R5 := Lib.hid hra5
  have R6 := Lib.hid hra6
  have R7 := Lib.hid hra7
  have KD1 := Lib.hid hkd1
  have KD2 := Lib.hid hkd2
  have SZ1 := Lib.hid hsz1
  have DP1 := Lib.hid hdp1
  have L5 := Lib.hid hl5
  have L7 := Lib.hid hl7
  clear he hra1 hra2 hra3 hra4 hra5 hra6 hra7 hkd1 hkd2 hsz1 hdp1 hl5 hl7
  go_enter Tryz.func14, Tryz.ntmps14
  go_wp2_with fail
  go_at_call 46
  refine (scan46_any fx1 (by decide) _).mono ?_
  rintro e W1 ⟨v1, rfl, hr1, hb1⟩
  have HT1 := Lib.hid hr1
  have B1 := Lib.hid hb1
  have E1 := Lib.hid (HE.out.below hb1)
  clear hr1 hb1
  go_wp2_with fail
  go_at_call 15
  refine (fragRead_any (scanToks fx1) [] v1 _ _ HT1.out (strs_nil _) E1.out (by simp) (small_ok sm1)).mono ?_
  rintro e W2 hend
  obtain ⟨hb2, va, ca, rfl, hfa⟩ := read_ok hend R1.out
  have FA := Lib.hid hfa
  have B2 := Lib.hid (B1.out.trans (hb2.mono B1.out.size))
  have E2 := Lib.hid (E1.out.below hb2)
  clear hend hb2 hfa
  go_wp2_with fail
  go_at_call 46
  refine (scan46_any fx2 (by decide) _).mono ?_
  rintro e W3 ⟨v3, rfl, hr3, hb3⟩
  have HT3 := Lib.hid hr3
  have B3 := Lib.hid (B2.out.trans (hb3.mono B2.out.size))
  have E3 := Lib.hid (E2.out.below hb3)
  have FA3 := Lib.hid (FA.out.bl hb3)
  clear hr3 hb3
  go_wp2_with fail
  go_at_call 15
  refine (fragRead_any (scanToks fx2) [] v3 _ _ HT3.out (strs_nil _) E3.out (by simp) (small_ok sm2)).mono ?_
  rintro e W4 hend
  obtain ⟨hb4, vb, cb, rfl, hfb⟩ := read_ok hend R2.out
  obtain ⟨gb, ob, kb, kcb, hvb, cb5, cb6, hkb⟩ := hfb.kid (k := 1) rfl
  subst hvb
  rw [KD2.out] at cb6
  have B4 := Lib.hid (B3.out.trans (hb4.mono B3.out.size))
  have E4 := Lib.hid (E3.out.below hb4)
  have FA4 := Lib.hid (FA3.out.bl hb4)
  have FB4 := Lib.hid hfb
  clear hend hb4 hfb hkb
  simp only [List.length_cons, List.length_nil, Nat.zero_add, Nat.reduceAdd, Nat.one_mul] at cb5 cb6 ⊢
  go_wp2_with fail
  go_at_call 46
  refine (scan46_any fx3 (by decide) _).mono ?_
  rintro e W5 ⟨v5, rfl, hr, hb⟩
  have HT5 := Lib.hid hr
  have B5 := Lib.hid (B4.out.trans (hb.mono B4.out.size))
  have E5 := Lib.hid (E4.out.below hb)
  have FA5 := Lib.hid (FA4.out.bl hb)
  have FB5 := Lib.hid (FB4.out.bl hb)
  clear hr hb
  go_wp2_with fail
  go_at_call 15
  refine (fragRead_any (scanToks fx3) [] v5 _ _ HT5.out (strs_nil _) E5.out (by simp) (small_ok sm3)).mono ?_
  rintro e W6 hend
  obtain ⟨hb, rfl⟩ := read_bad hend R3.out
  have B6 := Lib.hid (B5.out.trans (hb.mono B5.out.size))
  have E6 := Lib.hid (E5.out.below hb)
  have FA6 := Lib.hid (FA5.out.bl hb)
  have FB6 := Lib.hid (FB5.out.bl hb)
  clear hend hb
  go_wp2_with fail
  go_at_call 46
  refine (scan46_any fx4 (by decide) _).mono ?_
  rintro e W7 ⟨v7, rfl, hr, hb⟩
  have HT7 := Lib.hid hr
  have B7 := Lib.hid (B6.out.trans (hb.mono B6.out.size))
  have E7 := Lib.hid (E6.out.below hb)
  have FA7 := Lib.hid (FA6.out.bl hb)
  have FB7 := Lib.hid (FB6.out.bl hb)
  clear hr hb
  go_wp2_with fail
  go_at_call 15
  refine (fragRead_any (scanToks fx4) [] v7 _ _ HT7.out (strs_nil _) E7.out (by simp) (small_ok sm4)).mono ?_
  rintro e W8 hend
  obtain ⟨hb, rfl⟩ := read_bad hend R4.out
  have B8 := Lib.hid (B7.out.trans (hb.mono B7.out.size))
  have E8 := Lib.hid (E7.out.below hb)
  have FA8 := Lib.hid (FA7.out.bl hb)
  have FB8 := Lib.hid (FB7.out.bl hb)
  clear hend hb
  go_wp2_with fail
  go_at_call 46
  refine (scan46_any fx5 (by decide) _).mono ?_
  rintro e W9 ⟨v9, rfl, hr, hb⟩
  have HT9 := Lib.hid hr
  have B9 := Lib.hid (B8.out.trans (hb.mono B8.out.size))
  have E9 := Lib.hid (E8.out.below hb)
  have FA9 := Lib.hid (FA8.out.bl hb)
  have FB9 := Lib.hid (FB8.out.bl hb)
  clear hr hb
  go_wp2_with fail
  have ba := (Below.refl W9.heap.size W9).alloc (Nat.le_refl _) (.cells ([tWhile].map Value.string).toArray 9)
  go_at_call 15
  refine (fragRead_any (scanToks fx5) [tWhile] v9 _ _ (HT9.out.bl ba) (strs_new W9 [tWhile] (by simp)) (E9.out.below ba) (fun s hs => by rw [List.mem_singleton.1 hs]; decide) (small_ok sm5)).mono ?_
  rintro e W10 hend
  obtain ⟨hb, v5, c5, rfl, hf5⟩ := read_ok hend R5.out
  have bb := ba.trans (hb.mono ba.size)
  have B10 := Lib.hid (B9.out.trans (bb.mono B9.out.size))
  have E10 := Lib.hid ((E9.out.below ba).below hb)
  have FA10 := Lib.hid ((FA9.out.bl ba).bl hb)
  have FB10 := Lib.hid ((FB9.out.bl ba).bl hb)
  rw [L5.out]
  clear hend hb ba bb hf5
  go_wp2_with fail
  go_at_call 46
  refine (scan46_any fx5 (by decide) _).mono ?_
  rintro e W11 ⟨v11, rfl, hr, hb⟩
  have HT11 := Lib.hid hr
  have B11 := Lib.hid (B10.out.trans (hb.mono B10.out.size))
  have E11 := Lib.hid (E10.out.below hb)
  have FA11 := Lib.hid (FA10.out.bl hb)
  have FB11 := Lib.hid (FB10.out.bl hb)
  clear hr hb
  go_wp2_with fail
  go_at_call 15
  refine (fragRead_any (scanToks fx5) [] v11 _ _ HT11.out (strs_nil _) E11.out (by simp) (small_ok sm5)).mono ?_
  rintro e W12 hend
  obtain ⟨hb, rfl⟩ := read_bad hend R6.out
  have B12 := Lib.hid (B11.out.trans (hb.mono B11.out.size))
  have E12 := Lib.hid (E11.out.below hb)
  have FA12 := Lib.hid (FA11.out.bl hb)
  have FB12 := Lib.hid (FB11.out.bl hb)
  clear hend hb
  obtain ⟨ga, oa, kka, kca, hva, ca5, ca6, hka⟩ := FA12.out.kid (k := 1) rfl
  subst hva
  rw [KD1.out] at ca6 hka
  obtain ⟨gk, ok, kkk, kck, hvk, ck5, _, _⟩ := hka.kid (k := 2) rfl
  subst hvk
  obtain ⟨gb', ob', kb', kcb', hvb, db5, _, _⟩ := FB12.out.kid (k := 1) rfl
  simp only [Option.some.injEq, Addr.mk.injEq, and_true] at hvb
  obtain ⟨rfl, rfl⟩ := hvb
  simp only [List.length_cons, List.length_nil, Nat.zero_add, Nat.reduceAdd, Nat.one_mul, Nat.reduceMul] at ca5 ca6 ck5 db5
  clear cb5 cb6 hka
  go_wp2_with fail
  go_at_call 46
  refine (scan46_any fx6 (by decide) _).mono ?_
  rintro e W13 ⟨v13, rfl, hr, hb⟩
  have HT13 := Lib.hid hr
  have B13 := Lib.hid (B12.out.trans (hb.mono B12.out.size))
  have E13 := Lib.hid (E12.out.below hb)
  have FA13 := Lib.hid (FA12.out.bl hb)
  clear hr hb ca5 ca6 ck5 db5
  go_wp2_with fail
  go_at_call 15
  refine (fragRead_any (scanToks fx6) [] v13 _ _ HT13.out (strs_nil _) E13.out (by simp) (small_ok sm6)).mono ?_
  rintro e W14 hend
  obtain ⟨hb, v7, c7, rfl, hf7⟩ := read_ok hend R7.out
  have B14 := Lib.hid (B13.out.trans (hb.mono B13.out.size))
  have FA14 := Lib.hid (FA13.out.bl hb)
  rw [L7.out]
  clear hend hb hf7
  go_wp2_with fail
  go_at_call 21
  refine (size_any _ [a1, f1] _ _ FA14.out).mono ?_
  rintro e W15 ⟨rfl, hb⟩
  rw [SZ1.out]
  have B15 := Lib.hid (B14.out.trans (hb.mono B14.out.size))
  have FA15 := Lib.hid (FA14.out.bl hb)
  clear hb
  go_wp2_with fail
  go_at_call 23
  refine (Depth_any _ [a1, f1] _ _ FA15.out).mono ?_
  rintro e W16 ⟨rfl, hb⟩
  rw [DP1.out]
  have B16 := Lib.hid (B15.out.trans (hb.mono B15.out.size))
  clear hb
  go_wp2_with fail
  go_ret
  exact ⟨rfl, B16.out⟩
end Go.Proofs.YtopbmndjnjnmcaaGreatDoor

/- (P4) -/
/- Package fragment: errors are at tokens. -/
namespace Go.Proofs.YtopbmndjnjnmcaaGreatDoor
open Go.RowKit Lx Go.Sort
section
variable {ts : List Tok} {ws : List ByteArray} {e : Nat} {i : Int}
theorem pDrop_lt : ∀ {k : Nat} {s : Rst}, pDrop ts k s = .bad e i → e = 0 ∨ i < ts.length
  | 0, _, h => by cases h
  | k + 1, s, h => by
    simp only [pDrop] at h
    split at h
    · rename_i t ht
      have := (List.getElem?_eq_some_iff.1 ht).1
      split at h
      · exact pDrop_lt h
      · cases h; exact .inr (by omega)
    · cases h; exact .inl rfl
theorem pTake_blt {s : Rst} (h : pTake ts ws s = .bad e i) : e = 0 ∨ i < ts.length := by
  unfold pTake at h
  split at h
  · cases h; exact .inl rfl
  · rename_i t ht
    have hl := (List.getElem?_eq_some_iff.1 ht).1
    split at h
    · split at h
      · cases h; exact .inr (by omega)
      · rcases pEnd_bad h with h | h
        · exact .inl h
        · exact .inr (by omega)
      · unfold pNamed at h
        split at h
        · rename_i he
          cases h
          rcases pEnd_bad he with h | h
          · exact .inl h
          · exact .inr (by omega)
        · split at h
          · exact pDrop_lt h
          · cases h
    · split at h
      · split at h
        · cases h; exact .inr (by omega)
        · cases h
      · cases h
theorem pGo_blt : ∀ {n : Nat} {s : Rst}, pGo ts ws n s = .bad e i → e = 0 ∨ i < ts.length
  | 0, _, h => by cases h
  | n + 1, s, h => by
    simp only [pGo] at h
    split at h
    · rename_i hl
      split at h
      · split at h
        · rename_i hp; cases h; exact pTake_blt hp
        · exact pGo_blt h
      · cases h; exact .inr (by omega)
    · cases h
theorem pRead_at (h : pRead ts ws = .bad e i) (he : e = 14 ∨ e = 6 ∨ e = 20) : i < ts.length ∧ ts.length ≤ 6000 := by
  unfold pRead at h
  split at h
  · cases h; omega
  · split at h
    · cases h; omega
    · rename_i hl
      refine ⟨?_, by omega⟩
      unfold pRead0 at h
      split at h
      · rename_i hg
        cases h
        rcases pGo_blt hg with h | h
        · omega
        · exact h
      · split at h
        · cases h
        · cases h; omega
end
end Go.Proofs.YtopbmndjnjnmcaaGreatDoor

/- (G8) -/
/- Package fragment: the walk of FragPrefix. -/
namespace Go.Proofs.YtopbmndjnjnmcaaGreatDoor
open Go.RowKit Lx

attribute [local go_sem] Oper.semAt_some

def toksC : List Tok → List Value
  | [] => []
  | t :: r => (tokC t).toList ++ toksC r
theorem toksC_len : ∀ l : List Tok, (toksC l).length = l.length * 5
  | [] => rfl
  | t :: r => by simp only [toksC, List.length_append, toksC_len r, tokC, List.length_cons, List.length_nil]; omega
theorem toksC_app : ∀ (a b : List Tok), toksC (a ++ b) = toksC a ++ toksC b
  | [], b => rfl
  | t :: a, b => by simp only [List.cons_append, toksC, toksC_app a b, List.append_assoc]
theorem toksC_at : ∀ (l : List Tok) (k : Nat) (t : Tok) (j : Nat), l[k]? = some t → j < 5 → (toksC l)[k * 5 + j]? = (tokC t)[j]?
  | [], k, t, j, h, _ => by simp at h
  | q :: r, 0, t, j, h, hj => by
    simp at h; subst h
    simp only [toksC, Nat.zero_mul, Nat.zero_add]
    rw [List.getElem?_append_left (by simp [tokC]; omega)]
    simp
  | q :: r, k + 1, t, j, h, hj => by
    simp only [toksC]
    rw [List.getElem?_append_right (by simp [tokC]; omega)]
    have : (k + 1) * 5 + j - (tokC q).toList.length = k * 5 + j := by simp [tokC]; omega
    rw [this]
    exact toksC_at r k t j (by simpa using h) hj
theorem toksC_one : ∀ (l : List Tok), ∀ u ∈ toksC l, u.oneCell' = true
  | [], u, h => by cases h
  | t :: r, u, h => by
    rcases List.mem_append.1 h with h | h
    · simp [tokC] at h
      rcases h with rfl | rfl | rfl | rfl | rfl <;> rfl
    · exact toksC_one r u h
/-- Which cells a slice of tokens has. -/
theorem tok_news {W : World} {ad : Addr} {n c : Nat} {ts : List Tok} (h : TokRead W (.slice (some ad) n c) ts) : ∀ (j : Nat) u, (toksC ts)[j]? = some u → W.cell? (ad.add j) = some u := fun j u hj => by
  obtain ⟨a, c', hv, _, h⟩ := h
  simp only [Value.slice.injEq] at hv
  obtain ⟨hv, _, _⟩ := hv
  have hlt : j < (toksC ts).length := (List.getElem?_eq_some_iff.1 hj).1
  rw [toksC_len] at hlt
  have hk : j / 5 < ts.length := by omega
  obtain ⟨g, o, ha, _, h0, h1, h2, h3, h4⟩ := h (j / 5) _ (List.getElem?_eq_getElem hk)
  rw [← hv] at ha
  cases ha
  have hadd : ∀ n : Nat, (⟨g, o, none⟩ : Addr).add n = ⟨g, o + n, none⟩ := fun n => by unfold Addr.add; split <;> simp_all
  have hat := toksC_at ts (j / 5) _ (j % 5) (List.getElem?_eq_getElem hk) (Nat.mod_lt _ (by omega))
  rw [show j / 5 * 5 + j % 5 = j by omega, hj] at hat
  rw [hadd, show o + j = o + j / 5 * 5 + j % 5 by omega]
  have h5 : j % 5 < 5 := Nat.mod_lt _ (by omega)
  generalize j % 5 = i at hat h5 ⊢
  match i, h5, hat with
  | 0, _, hat => rw [hat]; exact h0
  | 1, _, hat => rw [hat]; exact h1
  | 2, _, hat => rw [hat]; exact h2
  | 3, _, hat => rw [hat]; exact h3
  | 4, _, hat => rw [hat]; exact h4
theorem tok_owns {W : World} {base : Nat} {v : Value} {ts : List Tok} {n : Nat} (h : W.ownsRow base 50 5 v n (toksC ts)) (hn : n = ts.length) (hm : ts.length ≤ maxLen) : TokRead W v ts := by
  subst hn
  rcases h.2 with ⟨rfl, h0⟩ | ⟨g, cap, cur, rfl, hb, hg, hc, hm', hz, ht⟩
  · have hnil : ts = [] := List.eq_nil_of_length_eq_zero h0
    subst hnil
    exact ⟨none, 0, rfl, by simp, fun k t hk => by simp at hk⟩
  · refine ⟨_, cap, rfl, ⟨hm, hc⟩, fun k t hk => ⟨g, 0, rfl, (Array.getElem?_eq_some_iff.1 hg).1, ?_⟩⟩
    have hkl : k < ts.length := (List.getElem?_eq_some_iff.1 hk).1
    have e : ∀ j, j < 5 → W.cell? ⟨g, 0 + k * 5 + j, none⟩ = (tokC t)[j]? := fun j hj => by
      rw [Nat.zero_add, h.cellAt _ (by omega)]
      exact toksC_at ts k t j hk hj
    exact ⟨e 0 (by omega), e 1 (by omega), e 2 (by omega), e 3 (by omega), e 4 (by omega)⟩
/-- The first tokens of a slice. -/
theorem tok_take {W : World} {a : Option Addr} {n c : Nat} {ts : List Tok} (h : TokRead W (.slice a n c) ts) {k : Nat} (hk : k ≤ ts.length) : TokRead W (.slice a k c) (ts.take k) := by
  obtain ⟨a', c', hv, ⟨h1, h2⟩, h⟩ := h
  simp only [Value.slice.injEq] at hv
  obtain ⟨rfl, _, rfl⟩ := hv
  have hl : (ts.take k).length = k := by rw [List.length_take]; omega
  refine ⟨_, c, by rw [hl], ⟨by omega, by omega⟩, fun j t hj => ?_⟩
  rw [List.getElem?_take] at hj
  split at hj
  · exact h j t hj
  · cases hj
theorem owns_cap {W : World} {base e size n cap g : Nat} {xs : List Value} (h : W.ownsRow base e size (.slice (some ⟨g, 0, none⟩) n cap) n xs) : n ≤ cap := by
  rcases h.2 with ⟨h, _⟩ | ⟨g', cap', cur, h, _, _, hc, _⟩
  · cases h
  · cases h; exact hc
theorem info50z : (Tryz.prog.info? 50).map (fun i => (i.zero, i.size, i.bytes)) = some (some (.agg #[.int .i64 0, .int .i64 0, .string ⟨#[]⟩, .int .i64 0, .int .i64 0]), 5, 48) := by kernel_rfl

theorem own_ge {g n m c b : Nat} (h : (Value.slice (some ⟨b, 0, none⟩) n c).ownBlock = some g ∨ g = b + 1) (hm : m ≤ b) : m ≤ g := by
  rcases h with h | h
  · have : b = g := Option.some.inj h
    omega
  · omega

set_option maxRecDepth 100000 in
set_option maxHeartbeats 8000000 in
/-- **FragPrefix** -/
theorem fragPrefix_any (ts ms : List Tok) (ws : List ByteArray) (vt vw vm : Value) (w : World) (he : Env w) (hr : TokRead w vt ts) (hw : StrRead w vw ws) (hm : TokRead w vm ms) (hmn : ∀ n c, vm = .slice none n c → c = 0) (hzs : ∀ s ∈ ws, s.size ≤ maxLen) (hzt : ∀ t ∈ ts, t.text.size ≤ maxLen) (hzm : ∀ t ∈ ms, t.text.size ≤ maxLen) (hmb : ms.length ≤ 3000000000000) :
    Calls Tryz.prog 9 #[vt, vw, vm] w fun e W => e = .returned (.bool true) ∧ Below w.heap.size w W := by
  have HE := Lib.hid he
  have HT := Lib.hid hr
  have HW := Lib.hid hw
  have HM := Lib.hid hm
  have HMN := Lib.hid hmn
  have HZS := Lib.hid hzs
  have HZT := Lib.hid hzt
  have HZM := Lib.hid hzm
  obtain ⟨ta, tc, rfl, ⟨htl, htc⟩, _⟩ := hr
  obtain ⟨wa, wc, rfl, _⟩ := hw
  obtain ⟨ma, mc, rfl, ⟨hml, hmc⟩, _⟩ := hm
  unfold maxLen at htl hml
  clear he hmn hzs hzt hzm
  go_enter Tryz.func9, Tryz.ntmps9
  go_wp2_with fail
  go_at_call 14
  refine (sane02_any _ HE.out).mono ?_
  rintro e W1 ⟨rfl, hb⟩
  have B1 := Lib.hid hb
  clear hb
  go_wp2_with fail
  go_at_call 15
  refine (fragRead_any ts ws _ _ _ (HT.out.bl B1.out) (HW.out.bl B1.out) (HE.out.below B1.out) HZS.out HZT.out).mono ?_
  rintro e W2 hend
  cases hpr : pRead ts ws with
  | ok l =>
    obtain ⟨hb, va, ca, rfl, _⟩ := read_ok hend hpr
    have B2 := Lib.hid (B1.out.trans (hb.mono B1.out.size))
    clear hend hb hpr
    go_wp2_with fail
    go_ret
    exact ⟨rfl, B2.out⟩
  | bad er i =>
    obtain ⟨hb, rfl⟩ := read_bad hend hpr
    have B2 := Lib.hid (B1.out.trans (hb.mono B1.out.size))
    clear hend hb
    by_cases her : er = 14 ∨ er = 6 ∨ er = 20
    · obtain ⟨hik, hl6⟩ := pRead_at hpr her
      obtain ⟨k, rfl, hpk⟩ := pRead_prefix (more := ms) hpr her
      have HPK := Lib.hid hpk
      clear hpr hpk
      have hk1 : k < ts.length := by omega
      have hw2 : IntKind.i64.wrap ((k : Int) + 2) = ((k + 2 : Nat) : Int) := by rw [IntWalk.i64_in _ (by omega)]; omega
      have hw3 : IntKind.i64.wrap ((k : Int) + 3) = ((k + 3 : Nat) : Int) := by rw [IntWalk.i64_in _ (by omega)]; omega
      clear hik
      have hw4 : IntKind.i64.wrap (((k + 3 : Nat) : Int) + (ms.length : Int)) = ((k + 3 + ms.length : Nat) : Int) := by rw [IntWalk.i64_in _ (by omega)]; omega
      by_cases hka : ts.length ≤ k + 2
      · rcases her with rfl | rfl | rfl
        all_goals
          go_wp2_with fail
          go_ret
          exact ⟨rfl, B2.out⟩
      · have a1 : decide ((ts.length : Int) ≤ (k : Int) + 2) = false := decide_eq_false (by omega)
        have a2 : decide (ts.length ≤ k + 2) = false := decide_eq_false (by omega)
        by_cases hkb : 6000 < k + 3 + ms.length
        · have b1 : decide ((6000 : Int) < (k : Int) + 3 + (ms.length : Int)) = true := decide_eq_true (by omega)
          have b2 : decide (6000 < k + 3 + ms.length) = true := decide_eq_true (by omega)
          rcases her with rfl | rfl | rfl
          all_goals
            go_wp2_with fail
            go_ret
            exact ⟨rfl, B2.out⟩
        · have b1 : decide ((6000 : Int) < (k : Int) + 3 + (ms.length : Int)) = false := decide_eq_false (by omega)
          have b2 : decide (6000 < k + 3 + ms.length) = false := decide_eq_false (by omega)
          have hpe := HPK.out (by omega) (by omega)
          have HPE := Lib.hid hpe
          obtain ⟨tg, tf, hta⟩ : ∃ g o, ta = some ⟨g, o, none⟩ := by
            obtain ⟨a, c, hv, _, h⟩ := HT.out
            obtain ⟨g, o, ha, _⟩ := h 0 _ (List.getElem?_eq_getElem (by omega))
            simp only [Value.slice.injEq] at hv
            exact ⟨g, o, hv.1.trans ha⟩
          subst hta
          clear hpe
          obtain ⟨i0, hi0, hz0, hz1, hz2⟩ := info_parts info50z
          have ho0 : (W2.alloc (.cells #[] 50)).ownsRow W2.heap.size 50 5 (.slice (some ⟨W2.heap.size, 0, none⟩) 0 0) 0 [] :=
            ⟨rfl, .inr ⟨W2.heap.size, 0, #[], rfl, Nat.le_refl _, heap_alloc_new W2 _, Nat.le_refl _, Nat.zero_le _, rfl, rfl⟩⟩
          have hb3 := (Below.refl W2.heap.size W2).alloc (Nat.le_refl _) (.cells #[] 50)
          have htk : TokRead (W2.alloc (.cells #[] 50)) (.slice (some ⟨tg, tf, none⟩) (k + 3) tc) (ts.take (k + 3)) := tok_take ((HT.out.bl B2.out).bl hb3) (by omega)
          have hln : (toksC (ts.take (k + 3))).length = (k + 3) * 5 := by rw [toksC_len, List.length_take, Nat.min_eq_left (by omega)]
          have HO0 := Lib.hid ho0
          have HTK := Lib.hid htk
          have HLN := Lib.hid hln
          have B3 := Lib.hid (B2.out.trans (hb3.mono B2.out.size))
          have hw0 := B2.out.size
          have htll : (ts.take (k + 3)).length = k + 3 := by rw [List.length_take]; omega
          have HTL := Lib.hid htll
          clear ho0 hb3 htk hln htll
          by_cases hm0 : ms.length = 0
          · have hmn : ms = [] := List.eq_nil_of_length_eq_zero hm0
            have hmc0 : ma = none → mc = 0 := fun h => HMN.out ms.length mc (by rw [h])
            have HMC := Lib.hid hmc0
            have hpe2 := HPE.out
            rw [hmn, List.append_nil] at hpe2
            clear HPE
            have HPE := Lib.hid hpe2
            rw [hm0]
            clear hm0 hmc0 hmn hpe2 hw4 b1 b2
            rcases her with rfl | rfl | rfl
            all_goals
              go_wp2_with (first
                | (at_builtin; refine wpList_append_lies _ rfl (.tmp 49) (.tmp 53) 22 rfl W2.heap.size 50 i0 _ 5 48 Tryz.underlying22 hi0 hz0 hz1 hz2 rfl (by omega) (.slice (some ⟨W2.heap.size, 0, none⟩) 0 0) 0 [] (by rfl) HO0.out ⟨tg, tf, none⟩ (k + 3) tc (toksC (ts.take (k + 3))) (by rfl) HLN.out (tok_news HTK.out) (toksC_one _) (by omega) (by unfold maxLen; omega) (by omega) (by rw [World.size_alloc]; omega) (W2.heap.size + 1) (World.size_alloc _ _) ?_; intro g1 cap1 w10 hown1 hgrow hat hgl; simp only [Nat.zero_add, List.nil_append] at hown1; have hcap := owns_cap hown1; have hb10 := B3.out.grown hgrow B3.out.size (fun r hr => by have : W2.heap.size = r := Option.some.inj hr; omega); have hg1 := own_ge hat hw0)
                | (at_builtin; refine wpList_append_fits_any _ rfl (.tmp 54) (.tmp 55) 22 rfl W2.heap.size 50 i0 5 Tryz.underlying22 hi0 hz1 g1 (k + 3) cap1 (toksC (ts.take (k + 3))) (by rfl) hown1 ma 0 mc [] (by rfl) (by rfl) (fun h => ⟨rfl, HMC.out h⟩) (fun _ _ j u h => (by simp at h)) (fun u h => (by simp at h)) (by omega) ?_; intro w11 hown2 hgrow2; simp only [Nat.add_zero, List.append_nil] at hown2; have hb11 := hb10.grown hgrow2 hb10.size (fun r hr => by have : g1 = r := Option.some.inj hr; omega))
                | (go_at_call 15; go_must (refine (fragRead_any (ts.take (k + 3)) ws _ _ _ (tok_owns hown2 HTL.out.symm (by rw [HTL.out]; unfold maxLen; omega)) (HW.out.bl hb11) (HE.out.below hb11) HZS.out (fun t ht => HZT.out t (List.mem_of_mem_take ht))).mono ?_)))
              rintro e W3 hend3
              obtain ⟨hb12, rfl⟩ := read_bad hend3 HPE.out
              have B5 := Lib.hid (hb11.trans (hb12.mono hb11.size))
              clear hend3 hb12 hown2
              go_wp2_with fail
              go_ret
              exact ⟨rfl, B5.out⟩
          · obtain ⟨mg, mf, hma⟩ : ∃ g o, ma = some ⟨g, o, none⟩ := by
              obtain ⟨a, c, hv, _, h⟩ := HM.out
              obtain ⟨g, o, ha, _⟩ := h 0 _ (List.getElem?_eq_getElem (by omega))
              simp only [Value.slice.injEq] at hv
              exact ⟨g, o, hv.1.trans ha⟩
            subst hma
            have hlm : (ts.take (k + 3) ++ ms).length = k + 3 + ms.length := by rw [List.length_append, HTL.out]
            have HLM := Lib.hid hlm
            clear hlm
            rcases her with rfl | rfl | rfl
            all_goals
              go_wp2_with (first
                | (at_builtin; refine wpList_append_lies _ rfl (.tmp 49) (.tmp 53) 22 rfl W2.heap.size 50 i0 _ 5 48 Tryz.underlying22 hi0 hz0 hz1 hz2 rfl (by omega) (.slice (some ⟨W2.heap.size, 0, none⟩) 0 0) 0 [] (by rfl) HO0.out ⟨tg, tf, none⟩ (k + 3) tc (toksC (ts.take (k + 3))) (by rfl) HLN.out (tok_news HTK.out) (toksC_one _) (by omega) (by unfold maxLen; omega) (by omega) (by rw [World.size_alloc]; omega) (W2.heap.size + 1) (World.size_alloc _ _) ?_; intro g1 cap1 w10 hown1 hgrow hat hgl; simp only [Nat.zero_add, List.nil_append] at hown1; have hcap := owns_cap hown1; have hb10 := B3.out.grown hgrow B3.out.size (fun r hr => by have : W2.heap.size = r := Option.some.inj hr; omega); have hg1 := own_ge hat hw0)
                | (at_builtin; go_must (refine wpList_append_lies _ rfl (.tmp 54) (.tmp 55) 22 rfl W2.heap.size 50 i0 _ 5 48 Tryz.underlying22 hi0 hz0 hz1 hz2 rfl (by omega) (.slice (some ⟨g1, 0, none⟩) (k + 3) cap1) (k + 3) (toksC (ts.take (k + 3))) (by rfl) hown1 ⟨mg, mf, none⟩ ms.length mc (toksC ms) (by rfl) (toksC_len ms) (tok_news (HM.out.bl hb10)) (toksC_one _) (by omega) (by unfold maxLen; omega) (by omega) (Nat.le_trans (own_ge hat (Nat.le_refl _)) (Nat.le_of_lt hgl)) _ rfl ?_); intro g2 cap2 w11 hown2 hgrow2 hat2 hgl2; rw [← toksC_app] at hown2; have hb11 := hb10.grown hgrow2 hb10.size (fun r hr => by have : g1 = r := Option.some.inj hr; omega))
                | (go_at_call 15; go_must (refine (fragRead_any (ts.take (k + 3) ++ ms) ws _ _ _ (tok_owns hown2 HLM.out.symm (by rw [HLM.out]; unfold maxLen; omega)) (HW.out.bl hb11) (HE.out.below hb11) HZS.out (fun t ht => (List.mem_append.1 ht).elim (fun h => HZT.out t (List.mem_of_mem_take h)) (HZM.out t))).mono ?_)))
              rintro e W3 hend3
              obtain ⟨hb12, rfl⟩ := read_bad hend3 HPE.out
              have B5 := Lib.hid (hb11.trans (hb12.mono hb11.size))
              clear hend3 hb12 hown2
              go_wp2_with fail
              go_ret
              exact ⟨rfl, B5.out⟩
    · have t1 : ((er : Int) != 14) = true := by simp; omega
      have t2 : ((er : Int) != 6) = true := by simp; omega
      have t3 : ((er : Int) != 20) = true := by simp; omega
      clear hpr
      go_wp2_with fail
      go_ret
      exact ⟨rfl, B2.out⟩
end Go.Proofs.YtopbmndjnjnmcaaGreatDoor
