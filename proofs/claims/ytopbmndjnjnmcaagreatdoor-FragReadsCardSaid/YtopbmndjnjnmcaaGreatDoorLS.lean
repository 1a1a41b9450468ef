/- Package fragment: what FragReads wants of the texts MD to PT. -/
import Derived.Test.YtopbmndjnjnmcaaGreatDoorMA
import Derived.Test.YtopbmndjnjnmcaaGreatDoorMC
import Derived.Test.YtopbmndjnjnmcaaGreatDoorMB
import Derived.Deep.AppendLies
import Derived.Deep.RegionWith
import Derived.Test.YtopbmndjnjnmcaaGreatDoorOpen
import Derived.BigRegion
import Derived.Laws.StructEq
import Derived.Deep.RegionHeld3
/- Package fragment: texts G6, G7, P4, G8, in one. -/
/- (G6) -/
/- Package fragment: the chapter's examples, reckoned. -/
namespace Go.Proofs.YtopbmndjnjnmcaaGreatDoor
open Go.RowKit Lx

attribute [local go_sem] Oper.semAt_some

def tkOfS (s : ByteArray) (p : Pc) : Tok := ⟨p.kind, qValue p.kind ((s.data.toList.drop p.at_).take p.len), pcText s p, p.at_, 0⟩
/-- The tokens of a text. -/
def scanToks (s : ByteArray) : List Tok := (qScan s.data.toList).map (tkOfS s)

theorem tksCells_at5 (s : ByteArray) : ∀ (ps : List Pc) (k : Nat) (p : Pc) (j : Nat), ps[k]? = some p → j < 5 → (tksCells s ps)[k * 5 + j]? = (tkCells s p)[j]?
  | [], k, p, j, h, _ => by simp at h
  | q :: r, 0, p, j, h, hj => by
    simp at h; subst h
    simp only [tksCells, Nat.zero_mul, Nat.zero_add]
    rw [List.getElem?_append_left (by simp [tkCells]; omega)]
  | q :: r, k + 1, p, j, h, hj => by
    simp only [tksCells]
    rw [List.getElem?_append_right (by simp [tkCells]; omega)]
    have : (k + 1) * 5 + j - (tkCells s q).length = k * 5 + j := by simp [tkCells]; omega
    rw [this]
    exact tksCells_at5 s r k p j (by simpa using h) hj
theorem toks_read {W : World} {base : Nat} {s : ByteArray} {v : Value} (h : W.ownsRow base 50 5 v (qScan s.data.toList).length (tksCells s (qScan s.data.toList))) : TokRead W v (scanToks s) := by
  have hl := scan_length s.data.toList
  have hlen : (scanToks s).length = (qScan s.data.toList).length := List.length_map _
  have hcl := h.1
  rcases h.2 with ⟨rfl, h0⟩ | ⟨g, cap, cur, rfl, hb, hg, hc, hm, hz, ht⟩
  · have hnil : qScan s.data.toList = [] := List.eq_nil_of_length_eq_zero (by
      have : (tksCells s (qScan s.data.toList)).length = 0 := by rw [hcl, h0, Nat.zero_mul]
      rw [tksCells_len] at this; omega)
    refine ⟨none, 0, by rw [hlen, hnil]; rfl, by rw [hlen, hnil]; simp, fun k t hk => ?_⟩
    unfold scanToks at hk
    rw [hnil] at hk
    simp at hk
  · refine ⟨_, cap, by rw [hlen], ⟨by rw [hlen]; unfold maxLen; omega, by rw [hlen]; exact hc⟩, fun k t hk => ⟨g, 0, rfl, (Array.getElem?_eq_some_iff.1 hg).1, ?_⟩⟩
    unfold scanToks at hk
    rw [List.getElem?_map, Option.map_eq_some_iff] at hk
    obtain ⟨p, hp, rfl⟩ := hk
    have hkl : k < (qScan s.data.toList).length := (List.getElem?_eq_some_iff.1 hp).1
    have e : ∀ j, j < 5 → W.cell? ⟨g, 0 + k * 5 + j, none⟩ = (tkCells s p)[j]? := fun j hj => by
      rw [Nat.zero_add, h.cellAt _ (by omega)]
      exact tksCells_at5 s _ k p j hp hj
    exact ⟨e 0 (by omega), e 1 (by omega), e 2 (by omega), e 3 (by omega), e 4 (by omega)⟩

theorem field94_0 (a b c : Value) (w : World) : (Instr.field 94 (.agg #[a, b, c]) 0).run Tryz.prog w = .ok a w := by kernel_rfl
attribute [local go_sem ↓] field94_0
set_option maxHeartbeats 1000000 in
/-- **scan** -/
theorem scan46_any (s : ByteArray) (hm : s.size ≤ maxLen) (w : World) :
    Calls Tryz.prog 46 #[.string s] w fun e W => ∃ v, e = .returned v ∧ TokRead W v (scanToks s) ∧ Below w.heap.size w W := by
  go_enter Tryz.func46, Tryz.ntmps46
  go_wp2_with fail
  go_at_call 68
  refine (refScan_any s hm _).mono ?_
  rintro e W ⟨v, rfl, ho, _, hb⟩
  have HR := Lib.hid (toks_read ho)
  obtain ⟨va, vn, vc, rfl⟩ := ownsRow_slice ho
  clear ho
  go_wp2_with fail
  go_ret
  exact ⟨_, rfl, HR.out, hb⟩

def fx1 : ByteArray := ⟨#[102, 40, 120, 44, 32, 91, 49, 93, 41]⟩
def fx2 : ByteArray := ⟨#[100, 101, 102, 105, 110, 101, 32, 109, 101, 116, 104, 111, 100, 32, 97, 114, 101, 97, 32, 40, 115, 41, 32, 115, 32, 101, 110, 100, 32, 109, 101, 116, 104, 111, 100, 32, 97, 114, 101, 97, 59]⟩
def fx3 : ByteArray := ⟨#[98, 101, 103, 105, 110, 32, 40, 101, 110, 100, 41]⟩
def fx4 : ByteArray := ⟨#[105, 102, 32, 40, 97, 41, 32, 98]⟩
def fx5 : ByteArray := ⟨#[119, 104, 105, 108, 101, 32, 40, 97, 41, 32, 98, 32, 101, 110, 100]⟩
def fx6 : ByteArray := ⟨#[99, 108, 97, 115, 115, 32, 115, 108, 111, 116, 32, 120]⟩
def tWhile : ByteArray := ⟨#[119, 104, 105, 108, 101]⟩
def chk1 (r : Rd) : Bool := match r with
  | .ok [.mk _ o0 _, .mk _ op [.mk _ o1 _, .mk _ o2 _, .mk _ op2 [.mk _ o3 _]]] => (op.toList == [40]) && (op2.toList == [91]) && (o0.toList == []) && (o1.toList == []) && (o2.toList == []) && (o3.toList == [])
  | _ => false
/-- What the first example is. -/
theorem chk1_out {r : Rd} (h : chk1 r = true) : ∃ (a f g : Fr) (k1 k2 : Fr), r = .ok [a, f] ∧ f.op.toList = [40] ∧ f.kids = [k1, k2, g] ∧ g.op.toList = [91] ∧ sizeP [a, f] = 8 ∧ depthP [a, f] = 2 := by
  unfold chk1 at h
  split at h
  · rename_i t0 o0 q0 t op t1 o1 q1 t2 o2 q2 t3 op2 t4 o3 q3
    simp only [Bool.and_eq_true, beq_iff_eq] at h
    obtain ⟨⟨⟨⟨⟨h1, h2⟩, h3⟩, h4⟩, h5⟩, h6⟩ := h
    refine ⟨_, _, _, _, _, rfl, h1, rfl, h2, ?_, ?_⟩
    · unfold sizeP
      simp [toksP, h1, h2, h3, h4, h5, h6]
    · unfold depthP
      simp [depF, h1, h2, h3, h4, h5, h6]
  · cases h
def chk2 (r : Rd) : Bool := match r with
  | .ok [_, .mk _ op [_, _, _], _] => op.toList == [109, 101, 116, 104, 111, 100]
  | _ => false
def chkB (r : Rd) (e : Nat) (i : Int) : Bool := match r with
  | .bad e' i' => (e' == e) && (i' == i)
  | _ => false
def chkN (r : Rd) (n : Nat) : Bool := match r with
  | .ok l => l.length == n
  | _ => false
theorem sx1 : chk1 (pRead (scanToks fx1) []) = true := by decide +kernel
theorem sx2 : chk2 (pRead (scanToks fx2) []) = true := by decide +kernel
theorem sx3 : chkB (pRead (scanToks fx3) []) 20 2 = true := by decide +kernel
theorem sx4 : chkB (pRead (scanToks fx4) []) 21 0 = true := by decide +kernel
theorem sx5 : chkN (pRead (scanToks fx5) [tWhile]) 1 = true := by decide +kernel
theorem sx6 : chkB (pRead (scanToks fx5) []) 20 5 = true := by decide +kernel
theorem sx7 : chkN (pRead (scanToks fx6) []) 3 = true := by decide +kernel
def small (ts : List Tok) : Bool := ts.all fun t => decide (t.text.size ≤ 100)
theorem small_ok {ts : List Tok} (h : small ts = true) : ∀ t ∈ ts, t.text.size ≤ maxLen := fun t ht => by
  unfold small at h
  rw [List.all_eq_true] at h
  have := of_decide_eq_true (h t ht)
  unfold maxLen; omega
theorem sm1 : small (scanToks fx1) = true := by decide +kernel
theorem sm2 : small (scanToks fx2) = true := by decide +kernel
theorem sm3 : small (scanToks fx3) = true := by decide +kernel
theorem sm4 : small (scanToks fx4) = true := by decide +kernel
theorem sm5 : small (scanToks fx5) = true := by decide +kernel
theorem sm6 : small (scanToks fx6) = true := by decide +kernel
end Go.Proofs.YtopbmndjnjnmcaaGreatDoor

/- (G7) -/
/- Package fragment: the chapter's examples hold. -/
namespace Go.Proofs.YtopbmndjnjnmcaaGreatDoor
open Go.RowKit Lx

attribute [local go_sem] Oper.semAt_some

theorem strs_nil (W : World) : StrRead W (.slice none 0 0) [] := ⟨none, 0, rfl, ⟨Nat.zero_le _, Nat.le_refl _⟩, fun k s h => by simp at h⟩
theorem chk2_out {r : Rd} (h : chk2 r = true) : ∃ (a f b k1 k2 k3 : Fr), r = .ok [a, f, b] ∧ f.op.toList = [109, 101, 116, 104, 111, 100] ∧ f.kids = [k1, k2, k3] := by
  unfold chk2 at h
  split at h
  · simp only [beq_iff_eq] at h
    exact ⟨_, _, _, _, _, _, rfl, h, rfl⟩
  · cases h
theorem chkB_out {r : Rd} {e : Nat} {i : Int} (h : chkB r e i = true) : r = .bad e i := by
  unfold chkB at h
  split at h
  · simp only [Bool.and_eq_true, beq_iff_eq] at h
    rw [h.1, h.2]
  · cases h
theorem chkN_out {r : Rd} {n : Nat} (h : chkN r n = true) : ∃ l, r = .ok l ∧ l.length = n := by
  unfold chkN at h
  split at h
  · simp only [beq_iff_eq] at h
    exact ⟨_, rfl, h⟩
  · cases h
/-- Read of a text's tokens, by what it gives. -/
theorem read_ok {ts : List Tok} {ws : List ByteArray} {l : List Fr} {w W : World} {e : Ending} (h : FrEnd (pRead ts ws) w e W) (hl : pRead ts ws = .ok l) : Below w.heap.size w W ∧ ∃ a c, e = .returned (.tuple #[.slice a l.length c, .int .i64 0, .int .i64 0]) ∧ FrRead W (fun _ => True) (.slice a l.length c) l := by
  rw [hl] at h
  obtain ⟨hb, v, rfl, hr⟩ := h
  have hr2 := hr
  obtain ⟨a, c, _, _, rfl, _⟩ := hr2
  exact ⟨hb, a, c, rfl, hr⟩
theorem read_bad {ts : List Tok} {ws : List ByteArray} {er : Nat} {i : Int} {w W : World} {e : Ending} (h : FrEnd (pRead ts ws) w e W) (hl : pRead ts ws = .bad er i) : Below w.heap.size w W ∧ e = .returned (.tuple #[.slice none 0 0, .int .i64 i, .int .i64 er]) := by
  rw [hl] at h; exact h
/-- The k-th fragment's opening and its list of fragments. -/
theorem FrRead.kid {W : World} {S : Nat → Prop} {a : Option Addr} {n c : Nat} {l : List Fr} (h : FrRead W S (.slice a n c) l) {k : Nat} {f : Fr} (hk : l[k]? = some f) : ∃ g o ka kc, a = some ⟨g, o, none⟩ ∧ W.cell? ⟨g, o + k * 7 + 5, none⟩ = some (.string f.op) ∧
    W.cell? ⟨g, o + k * 7 + 6, none⟩ = some (.slice ka f.kids.length kc) ∧ FrRead W S (.slice ka f.kids.length kc) f.kids := by
  obtain ⟨a', c', g, o, hv, _, ha, hat⟩ := h
  obtain ⟨kv, _, _, _, _, _, _, _, h5, h6, hr⟩ := hat.get hk
  have hr2 := hr
  obtain ⟨ka, kc, _, _, rfl, _⟩ := hr2
  simp only [Value.slice.injEq] at hv
  exact ⟨g, o, ka, kc, hv.1.trans (ha (by intro h0; rw [h0] at hk; cases hk)), h5, h6, hr⟩

set_option maxRecDepth 100000 in
set_option maxHeartbeats 8000000 in
theorem sane02_any (w : World) (he : Env w) : Calls Tryz.prog 14 #[] w fun e W => e = .returned (.bool true) ∧ Below w.heap.size w W := by
  have HE := Lib.hid he
  obtain ⟨a1, f1, g1, k11, k12, hra1, hop1, hkd1, hog1, hsz1, hdp1⟩ := chk1_out sx1
  obtain ⟨a2, f2, b2, k21, k22, k23, hra2, hop2, hkd2⟩ := chk2_out sx2
  have hra3 := chkB_out sx3
  have hra4 := chkB_out sx4
  obtain ⟨l5, hra5, hl5⟩ := chkN_out sx5
  have hra6 := chkB_out sx6
  obtain ⟨l7, hra7, hl7⟩ := chkN_out sx7
  have R1 := Lib.hid hra1
  have R2 := Lib.hid hra2
  have R3 := Lib.hid hra3
  have R4 := Lib.hid hra4
  have R5 := Lib.hid hra5
  have R6 := Lib.hid hra6
  have R7 := Lib.hid hra7
  have KD1 := Lib.hid hkd1
  have KD2 := Lib.hid hkd2
  have SZ1 := Lib.hid hsz1
  have DP1 := Lib.hid hdp1
  have L5 := Lib.hid hl5
  have L7 := Lib.hid hl7
  clear he hra1 hra2 hra3 hra4 hra5 hra6 hra7 hkd1 hkd2 hsz1 hdp1 hl5 hl7
  go_enter Tryz.func14, Tryz.ntmps14
  go_wp2_with fail
  go_at_call 46
  refine (scan46_any fx1 (by decide) _).mono ?_
  rintro e W1 ⟨v1, rfl, hr1, hb1⟩
  have HT1 := Lib.hid hr1
  have B1 := Lib.hid hb1
  have E1 := Lib.hid (HE.out.below hb1)
  clear hr1 hb1
  go_wp2_with fail
  go_at_call 15
  refine (fragRead_any (scanToks fx1) [] v1 _ _ HT1.out (strs_nil _) E1.out (by simp) (small_ok sm1)).mono ?_
  rintro e W2 hend
  obtain ⟨hb2, va, ca, rfl, hfa⟩ := read_ok hend R1.out
  have FA := Lib.hid hfa
  have B2 := Lib.hid (B1.out.trans (hb2.mono B1.out.size))
  have E2 := Lib.hid (E1.out.below hb2)
  clear hend hb2 hfa
  go_wp2_with fail
  go_at_call 46
  refine (scan46_any fx2 (by decide) _).mono ?_
  rintro e W3 ⟨v3, rfl, hr3, hb3⟩
  have HT3 := Lib.hid hr3
  have B3 := Lib.hid (B2.out.trans (hb3.mono B2.out.size))
  have E3 := Lib.hid (E2.out.below hb3)
  have FA3 := Lib.hid (FA.out.bl hb3)
  clear hr3 hb3
  go_wp2_with fail
  go_at_call 15
  refine (fragRead_any (scanToks fx2) [] v3 _ _ HT3.out (strs_nil _) E3.out (by simp) (small_ok sm2)).mono ?_
  rintro e W4 hend
  obtain ⟨hb4, vb, cb, rfl, hfb⟩ := read_ok hend R2.out
  obtain ⟨gb, ob, kb, kcb, hvb, cb5, cb6, hkb⟩ := hfb.kid (k := 1) rfl
  subst hvb
  rw [KD2.out] at cb6
  have B4 := Lib.hid (B3.out.trans (hb4.mono B3.out.size))
  have E4 := Lib.hid (E3.out.below hb4)
  have FA4 := Lib.hid (FA3.out.bl hb4)
  have FB4 := Lib.hid hfb
  clear hend hb4 hfb hkb
  simp only [List.length_cons, List.length_nil, Nat.zero_add, Nat.reduceAdd, Nat.one_mul] at cb5 cb6 ⊢
  go_wp2_with fail
  go_at_call 46
  refine (scan46_any fx3 (by decide) _).mono ?_
  rintro e W5 ⟨v5, rfl, hr, hb⟩
  have HT5 := Lib.hid hr
  have B5 := Lib.hid (B4.out.trans (hb.mono B4.out.size))
  have E5 := Lib.hid (E4.out.below hb)
  have FA5 := Lib.hid (FA4.out.bl hb)
  have FB5 := Lib.hid (FB4.out.bl hb)
  clear hr hb
  go_wp2_with fail
  go_at_call 15
  refine (fragRead_any (scanToks fx3) [] v5 _ _ HT5.out (strs_nil _) E5.out (by simp) (small_ok sm3)).mono ?_
  rintro e W6 hend
  obtain ⟨hb, rfl⟩ := read_bad hend R3.out
  have B6 := Lib.hid (B5.out.trans (hb.mono B5.out.size))
  have E6 := Lib.hid (E5.out.below hb)
  have FA6 := Lib.hid (FA5.out.bl hb)
  have FB6 := Lib.hid (FB5.out.bl hb)
  clear hend hb
  go_wp2_with fail
  go_at_call 46
  refine (scan46_any fx4 (by decide) _).mono ?_
  rintro e W7 ⟨v7, rfl, hr, hb⟩
  have HT7 := Lib.hid hr
  have B7 := Lib.hid (B6.out.trans (hb.mono B6.out.size))
  have E7 := Lib.hid (E6.out.below hb)
  have FA7 := Lib.hid (FA6.out.bl hb)
  have FB7 := Lib.hid (FB6.out.bl hb)
  clear hr hb
  go_wp2_with fail
  go_at_call 15
  refine (fragRead_any (scanToks fx4) [] v7 _ _ HT7.out (strs_nil _) E7.out (by simp) (small_ok sm4)).mono ?_
  rintro e W8 hend
  obtain ⟨hb, rfl⟩ := read_bad hend R4.out
  have B8 := Lib.hid (B7.out.trans (hb.mono B7.out.size))
  have E8 := Lib.hid (E7.out.below hb)
  have FA8 := Lib.hid (FA7.out.bl hb)
  have FB8 := Lib.hid (FB7.out.bl hb)
  clear hend hb
  go_wp2_with fail
  go_at_call 46
  refine (scan46_any fx5 (by decide) _).mono ?_
  rintro e W9 ⟨v9, rfl, hr, hb⟩
  have HT9 := Lib.hid hr
  have B9 := Lib.hid (B8.out.trans (hb.mono B8.out.size))
  have E9 := Lib.hid (E8.out.below hb)
  have FA9 := Lib.hid (FA8.out.bl hb)
  have FB9 := Lib.hid (FB8.out.bl hb)
  clear hr hb
  go_wp2_with fail
  have ba := (Below.refl W9.heap.size W9).alloc (Nat.le_refl _) (.cells ([tWhile].map Value.string).toArray 9)
  go_at_call 15
  refine (fragRead_any (scanToks fx5) [tWhile] v9 _ _ (HT9.out.bl ba) (strs_new W9 [tWhile] (by simp)) (E9.out.below ba) (fun s hs => by rw [List.mem_singleton.1 hs]; decide) (small_ok sm5)).mono ?_
  rintro e W10 hend
  obtain ⟨hb, v5, c5, rfl, hf5⟩ := read_ok hend R5.out
  have bb := ba.trans (hb.mono ba.size)
  have B10 := Lib.hid (B9.out.trans (bb.mono B9.out.size))
  have E10 := Lib.hid ((E9.out.below ba).below hb)
  have FA10 := Lib.hid ((FA9.out.bl ba).bl hb)
  have FB10 := Lib.hid ((FB9.out.bl ba).bl hb)
  rw [L5.out]
  clear hend hb ba bb hf5
  go_wp2_with fail
  go_at_call 46
  refine (scan46_any fx5 (by decide) _).mono ?_
  rintro e W11 ⟨v11, rfl, hr, hb⟩
  have HT11 := Lib.hid hr
  have B11 := Lib.hid (B10.out.trans (hb.mono B10.out.size))
  have E11 := Lib.hid (E10.out.below hb)
  have FA11 := Lib.hid (FA10.out.bl hb)
  have FB11 := Lib.hid (FB10.out.bl hb)
  clear hr hb
  go_wp2_with fail
  go_at_call 15
  refine (fragRead_any (scanToks fx5) [] v11 _ _ HT11.out (strs_nil _) E11.out (by simp) (small_ok sm5)).mono ?_
  rintro e W12 hend
  obtain ⟨hb, rfl⟩ := read_bad hend R6.out
  have B12 := Lib.hid (B11.out.trans (hb.mono B11.out.size))
  have E12 := Lib.hid (E11.out.below hb)
  have FA12 := Lib.hid (FA11.out.bl hb)
  have FB12 := Lib.hid (FB11.out.bl hb)
  clear hend hb
  obtain ⟨ga, oa, kka, kca, hva, ca5, ca6, hka⟩ := FA12.out.kid (k := 1) rfl
  subst hva
  rw [KD1.out] at ca6 hka
  obtain ⟨gk, ok, kkk, kck, hvk, ck5, _, _⟩ := hka.kid (k := 2) rfl
  subst hvk
  obtain ⟨gb', ob', kb', kcb', hvb, db5, _, _⟩ := FB12.out.kid (k := 1) rfl
  simp only [Option.some.injEq, Addr.mk.injEq, and_true] at hvb
  obtain ⟨rfl, rfl⟩ := hvb
  simp only [List.length_cons, List.length_nil, Nat.zero_add, Nat.reduceAdd, Nat.one_mul, Nat.reduceMul] at ca5 ca6 ck5 db5
  clear cb5 cb6 hka
  go_wp2_with fail
  go_at_call 46
  refine (scan46_any fx6 (by decide) _).mono ?_
  rintro e W13 ⟨v13, rfl, hr, hb⟩
  have HT13 := Lib.hid hr
  have B13 := Lib.hid (B12.out.trans (hb.mono B12.out.size))
  have E13 := Lib.hid (E12.out.below hb)
  have FA13 := Lib.hid (FA12.out.bl hb)
  clear hr hb ca5 ca6 ck5 db5
  go_wp2_with fail
  go_at_call 15
  refine (fragRead_any (scanToks fx6) [] v13 _ _ HT13.out (strs_nil _) E13.out (by simp) (small_ok sm6)).mono ?_
  rintro e W14 hend
  obtain ⟨hb, v7, c7, rfl, hf7⟩ := read_ok hend R7.out
  have B14 := Lib.hid (B13.out.trans (hb.mono B13.out.size))
  have FA14 := Lib.hid (FA13.out.bl hb)
  rw [L7.out]
  clear hend hb hf7
  go_wp2_with fail
  go_at_call 21
  refine (size_any _ [a1, f1] _ _ FA14.out).mono ?_
  rintro e W15 ⟨rfl, hb⟩
  rw [SZ1.out]
  have B15 := Lib.hid (B14.out.trans (hb.mono B14.out.size))
  have FA15 := Lib.hid (FA14.out.bl hb)
  clear hb
  go_wp2_with fail
  go_at_call 23
  refine (Depth_any _ [a1, f1] _ _ FA15.out).mono ?_
  rintro e W16 ⟨rfl, hb⟩
  rw [DP1.out]
  have B16 := Lib.hid (B15.out.trans (hb.mono B15.out.size))
  clear hb
  go_wp2_with fail
  go_ret
  exact ⟨rfl, B16.out⟩
end Go.Proofs.YtopbmndjnjnmcaaGreatDoor

/- (P4) -/
/- Package fragment: errors are at tokens. -/
namespace Go.Proofs.YtopbmndjnjnmcaaGreatDoor
open Go.RowKit Lx Go.Sort
section
variable {ts : List Tok} {ws : List ByteArray} {e : Nat} {i : Int}
end
end Go.Proofs.YtopbmndjnjnmcaaGreatDoor

/- (G8) -/
/- Package fragment: the walk of FragPrefix. -/
namespace Go.Proofs.YtopbmndjnjnmcaaGreatDoor
open Go.RowKit Lx

attribute [local go_sem] Oper.semAt_some

def toksC : List Tok → List Value
  | [] => []
  | t :: r => (tokC t).toList ++ toksC r
theorem owns_cap {W : World} {base e size n cap g : Nat} {xs : List Value} (h : W.ownsRow base e size (.slice (some ⟨g, 0, none⟩) n cap) n xs) : n ≤ cap := by
  rcases h.2 with ⟨h, _⟩ | ⟨g', cap', cur, h, _, _, hc, _⟩
  · cases h
  · cases h; exact hc
end Go.Proofs.YtopbmndjnjnmcaaGreatDoor

/- Package fragment's reference: Alike of two lists that are equal but for offsets and marks. -/
namespace Go.Proofs.YtopbmndjnjnmcaaGreatDoor
open Go.RowKit Lx Go.Sort

attribute [local go_sem] Oper.semAt_some

theorem block_lt {w : World} {a : Addr} {v : Value} (h : w.cell? a = some v) : a.block < w.heap.size := by
  rcases Nat.lt_or_ge a.block w.heap.size with h' | h'
  · exact h'
  · unfold World.cell? at h; rw [Array.getElem?_eq_none h'] at h; cases h

end Go.Proofs.YtopbmndjnjnmcaaGreatDoor

/- Package fragment: the walk of FragMarks. -/
namespace Go.Proofs.YtopbmndjnjnmcaaGreatDoor
open Go.RowKit Lx

attribute [local go_sem] Oper.semAt_some

theorem own_base {w : World} {base : Nat} {e : TypeId} {size : Nat} {v : Value} {n : Nat} {xs : List Value} (h : w.ownsRow base e size v n xs) {r : Nat} (hr : v.ownBlock = some r) : base ≤ r := by
  rcases h.2 with ⟨rfl, _⟩ | ⟨g, cap, cur, rfl, hb, _⟩
  · cases hr
  · obtain rfl : g = r := Option.some.inj hr
    exact hb
end Go.Proofs.YtopbmndjnjnmcaaGreatDoor

/- Package fragment: texts P6, P7, OF, S1, S2, S3, S4, in one. -/
/- (P6) -/
/- Package fragment: what Same, Flat and Check answer, as functions on lists; a further word that stands nowhere changes nothing. -/
namespace Go.Proofs.YtopbmndjnjnmcaaGreatDoor
open Go.RowKit Lx Go.Sort

section
variable {ts : List Tok} {ws : List ByteArray} {x : ByteArray}
/-- No open group has this opening. -/
def NoOp (x : ByteArray) (s : Rst) : Prop := ∀ g ∈ s.g :: s.stk, g.op.toList ≠ x.toList
theorem NoOp.same {s s' : Rst} (h : NoOp x s) (h1 : s'.g = s.g) (h2 : s'.stk = s.stk) : NoOp x s' := by unfold NoOp; rw [h1, h2]; exact h
end
end Go.Proofs.YtopbmndjnjnmcaaGreatDoor

/- (P7) -/
/- The pure reader's errors have numbers; what Check answers, by what Read gives. -/
namespace Go.Proofs.YtopbmndjnjnmcaaGreatDoor
open Go.RowKit Lx

section
variable {ts : List Tok} {ws : List ByteArray} {e : Nat} {i : Int}
end
end Go.Proofs.YtopbmndjnjnmcaaGreatDoor

/- (OF) -/
/- Arguments that are slices of fragments, opened. -/
namespace Go.Proofs.YtopbmndjnjnmcaaGreatDoor
open Go.ChangeShapes Go.WideShapes Go.ChangeAt Go.RowKit Lx

instance : Inhabited Fr := ⟨.mk default ByteArray.empty []⟩

/-- All texts in fragments. -/
def txts : List Fr → List ByteArray
  | [] => []
  | .mk t op ks :: r => t.text :: op :: (txts ks ++ txts r)
def TxtOk (l : List Fr) : Prop := ∀ s ∈ txts l, s.size ≤ maxLen
theorem TxtOk.nil : TxtOk [] := fun s h => by simp [txts] at h
/-- Fragments that lie in memory, by what is at each index. -/
theorem FrAt.of {W : World} {g : Nat} (hg : g < W.heap.size) : ∀ {l : List Fr} {o : Nat}, (∀ k f, l[k]? = some f → ∃ kv, (∀ j, j < 7 → W.cell? ⟨g, o + k * 7 + j, none⟩ = (frC f.tok f.op kv)[j]?) ∧ FrRead W (fun _ => True) kv f.kids) → FrAt W (fun _ => True) g o l
  | [], _, _ => .nil _ _
  | .mk t op ks :: l, o, h => by
    obtain ⟨kv, hc, a, c, g', o', hv, hm, ha, hr⟩ := h 0 _ rfl
    simp only [Fr.kids] at hv hm ha hr
    subst hv
    simp only [Nat.zero_mul, Nat.add_zero, Fr.tok, Fr.op] at hc
    refine .cons trivial hg (hc 0 (by omega)) (hc 1 (by omega)) (hc 2 (by omega)) (hc 3 (by omega)) (hc 4 (by omega)) (hc 5 (by omega)) (hc 6 (by omega)) hm ha hr (FrAt.of hg fun k f hk => ?_)
    obtain ⟨kv, h1, h2⟩ := h (k + 1) f (by simpa using hk)
    exact ⟨kv, fun j hj => by rw [show o + 7 + k * 7 + j = o + (k + 1) * 7 + j by omega]; exact h1 j hj, h2⟩

variable {H : Type} {enc : TypeId × Value → H}

end Go.Proofs.YtopbmndjnjnmcaaGreatDoor

/- (S1) -/
/- Package fragment: same. -/
namespace Go.Proofs.YtopbmndjnjnmcaaGreatDoor
open Go.RowKit Lx Go.Sort

attribute [local go_sem] Oper.semAt_some
/-- Whether two tokens are equal but for offsets and marks. -/
def tokSame (k n : Int) (x : ByteArray) (k' n' : Int) (x' : ByteArray) : Bool := (k == k') && ((n == n') && (x.toList == x'.toList))
theorem guard50s : Tryz.prog.eqGuardType Tryz.prog.depth 50 = false := by kernel_rfl
theorem held50s : Tryz.prog.stoodInHeld 50 = false := by kernel_rfl
theorem fields50s : Tryz.prog.underlying 50 = some (.struct (Tryz.prog.fieldsOf 50)) := by kernel_rfl
theorem tks_guard (op : BinOp) (x y : Operand) (xs ys : Array Value) (w : World) : (eqGuard op 50 x y (.agg xs) (.agg ys)).run Tryz.prog w = .ok () w := run_eqGuard_agg w op 50 x y xs ys guard50s
theorem tks_eql (w : World) (k n k' n' a m : Int) (x x' : ByteArray) : (Go.binOp .eql 50 (.agg #[.int .i64 k, .int .i64 n, .string x, .int .i64 a, .int .i64 m]) (.agg #[.int .i64 k', .int .i64 n', .string x', .int .i64 a, .int .i64 m])).run Tryz.prog w = .ok (.bool (tokSame k n x k' n' x')) w := by
  rw [run_eql_struct, run_equalIn_struct w 9999 50 _ _ fields50s held50s]
  unfold tokSame
  cases h1 : (k == k') <;> cases h2 : (n == n') <;> cases h3 : (x.toList == x'.toList) <;> simp [go_sem, h1, h2, h3]
attribute [local go_sem ↓] tks_eql tks_guard

end Go.Proofs.YtopbmndjnjnmcaaGreatDoor

/- (S2) -/
/- Package fragment: the range over tokens, where each round knows that what has come so far and its token begin the list. -/
namespace Go.Proofs.YtopbmndjnjnmcaaGreatDoor
open Go.RowKit Lx Go.Sort

attribute [local go_sem] Oper.semAt_some

end Go.Proofs.YtopbmndjnjnmcaaGreatDoor

/- (S3) -/
/- Package fragment: Flat, Same and Check. -/
namespace Go.Proofs.YtopbmndjnjnmcaaGreatDoor
open Go.RowKit Lx

attribute [local go_sem] Oper.semAt_some

/-- What AppendSeq holds: a box with the tokens that have come. -/
def AsI (w : World) (pre : List Tok) (W : World) : Prop :=
  (∃ v, Boxed W w.heap.size 22 v ∧ W.ownsRow w.heap.size 50 5 v pre.length (toksC pre)) ∧ Below w.heap.size w W
theorem AsI.grown {w : World} {pre : List Tok} {W W' : World} {row : Option Nat} (h : AsI w pre W) (hg : W.grownBy W' row) (hrow : ∀ r, row = some r → w.heap.size + 1 ≤ r ∧ ∃ o : Obj, W.heap[r]? = some o ∧ o.isCells = false) : AsI w pre W' := by
  obtain ⟨⟨v, hv, hr⟩, hb⟩ := h
  refine ⟨⟨v, hv.kept hg (fun e => by have := (hrow _ e.symm).1; omega), hr.kept hg ?_⟩, hb.grown hg hb.size (fun k e => by have := (hrow k e).1; omega)⟩
  rcases hr.2 with ⟨rfl, _⟩ | ⟨g, cap, cur, rfl, _, hgb, _⟩
  · exact .inl rfl
  · refine .inr fun e => ?_
    obtain ⟨_, o, ho, hc⟩ := hrow g (by simpa [Value.ownBlock] using e.symm)
    rw [hgb] at ho; cases ho; cases hc
theorem AsI.bl {w : World} {pre : List Tok} {W W' : World} (h : AsI w pre W) (hb : Below W.heap.size W W') : AsI w pre W' := h.grown (grown_bl hb none) (fun r e => by cases e)

end Go.Proofs.YtopbmndjnjnmcaaGreatDoor

/- (S4) -/
/- Package fragment: Check. -/
namespace Go.Proofs.YtopbmndjnjnmcaaGreatDoor
open Go.RowKit Lx

attribute [local go_sem] Oper.semAt_some

end Go.Proofs.YtopbmndjnjnmcaaGreatDoor

/- Package fragment: readable lists as the law's loop sees them; opened; the walk of FragMatched. -/
/- (P8body) -/
namespace Go.Proofs.YtopbmndjnjnmcaaGreatDoor
open Go.RowKit Lx
/-- The texts of groups are their openings. -/
def opTxt : List Fr → Prop
  | [] => True
  | .mk t op ks :: r => (op.toList ≠ [] → t.text.toList = op.toList) ∧ opTxt ks ∧ opTxt r
theorem nil_toList : (⟨#[]⟩ : ByteArray).toList = [] := by decide +kernel
def OpI (s : Rst) : Prop := ∀ g ∈ s.g :: s.stk, opTxt g.kids ∧ (g.op.toList ≠ [] → g.tok.text.toList = g.op.toList)
section
variable {ts : List Tok} {ws : List ByteArray}
theorem OpI.same {s s' : Rst} (h : OpI s) (h1 : s'.g = s.g) (h2 : s'.stk = s.stk) : OpI s' := by unfold OpI; rw [h1, h2]; exact h
end
end Go.Proofs.YtopbmndjnjnmcaaGreatDoor
/- (W2body) -/
namespace Go.Proofs.YtopbmndjnjnmcaaGreatDoor
open Go.RowKit Lx
attribute [local go_sem] Oper.semAt_some

/-- A list that a call owns has become another one. -/
def GrowV (w W : World) (ov ov' : Value) : Prop := w.grownBy W ov.ownBlock ∧ ∀ g, ov'.ownBlock = some g → ov.ownBlock = some g ∨ w.heap.size ≤ g
theorem GrowV.refl (w : World) (v : Value) : GrowV w w v v := ⟨grown_bl (Below.refl _ _) _, fun _ h => .inl h⟩
theorem GrowV.trans {a b c : World} {u v x : Value} (h : GrowV a b u v) (k : GrowV b c v x) : GrowV a c u x := by
  refine ⟨⟨k.1.os.trans h.1.os, k.1.tape.trans h.1.tape, k.1.output.trans h.1.output, Nat.le_trans h.1.size k.1.size, fun i hi hr => ?_⟩, fun g hg => ?_⟩
  · refine (k.1.block i (Nat.lt_of_lt_of_le hi h.1.size) fun e => ?_).trans (h.1.block i hi hr)
    rcases h.2 i e.symm with h2 | h2
    · exact hr h2.symm
    · omega
  · rcases k.2 g hg with h2 | h2
    · exact h.2 g h2
    · exact .inr (Nat.le_trans h.1.size h2)
theorem GrowV.bl {a b : World} (v : Value) (h : Below a.heap.size a b) : GrowV a b v v := ⟨grown_bl h _, fun _ hg => .inl hg⟩
theorem GrowV.low {w W : World} {ov ov' : Value} {base n : Nat} {xs : List Value} {e : TypeId} {size : Nat} (h : GrowV w W ov ov') (ho : w.ownsRow base e size ov n xs) {b : Nat} (hb : b < base) (hw : b < w.heap.size) : W.heap[b]? = w.heap[b]? :=
  h.1.block b hw fun e' => by have := own_base ho e'.symm; omega
theorem GrowV.below {w W : World} {ov ov' : Value} {base n : Nat} {xs : List Value} {e : TypeId} {size : Nat} (h : GrowV w W ov ov') (ho : w.ownsRow base e size ov n xs) (hb : base ≤ w.heap.size) : Below base w W :=
  (Below.refl base w).grown h.1 hb (fun _ e' => own_base ho e')
theorem own_lt {W : World} {base e size n : Nat} {v : Value} {xs : List Value} (h : W.ownsRow base e size v n xs) {g : Nat} (hg : v.ownBlock = some g) : g < W.heap.size := by
  obtain ⟨_, cs, hcs⟩ := owned_cells h hg
  exact (Array.getElem?_eq_some_iff.1 hcs).1
end Go.Proofs.YtopbmndjnjnmcaaGreatDoor
/- (W8body) -/
namespace Go.Proofs.YtopbmndjnjnmcaaGreatDoor
open Go.RowKit Lx
attribute [local go_sem] Oper.semAt_some

theorem info9z : (Tryz.prog.info? 9).map (fun i => (i.zero, i.size, i.bytes)) = some (some (.string ⟨#[]⟩), 1, 16) := by kernel_rfl
end Go.Proofs.YtopbmndjnjnmcaaGreatDoor

/- Package fragment: what has been read is read back as the same; Alike of equal lists; the walk of FragBack. -/
/- (P9x) -/
namespace Go.Proofs.YtopbmndjnjnmcaaGreatDoor
open Go.RowKit Lx
theorem ba_ext {s t : ByteArray} (h : s.toList = t.toList) : s = t := by
  rw [toList_data, toList_data] at h
  cases s; cases t
  simp only [ByteArray.mk.injEq]
  exact Array.toList_inj.1 h
/-- What a reader looks at in a token. -/
def tK (t : Tok) : Int × ByteArray := (t.kind, t.text)
theorem isNm_K (t : Tok) (nm : ByteArray) : isNm t nm = true ↔ tK t = (1, nm) := by
  unfold isNm tK
  simp only [Bool.and_eq_true, beq_iff_eq, Prod.mk.injEq]
  constructor
  · rintro ⟨h1, h2⟩; exact ⟨h1, ba_ext h2⟩
  · rintro ⟨h1, h2⟩; exact ⟨h1, by rw [h2]⟩
theorem isCl_iff (t : Tok) : isCl t = true ↔ t.text = bs1 41 ∨ t.text = bs1 93 ∨ t.text = bs1 125 ∨ t.text = tEnd := by
  unfold isCl
  rw [Lib.containsS_iff]
  simp

/-- All tokens of fragments, whatever their depth. -/
def toksU : List Fr → List Tok
  | [] => []
  | .mk t op ks :: r => (if op.toList = [] then [t] else t :: (toksU ks ++ [closeTok t op])) ++ toksU r
def tokFU (f : Fr) : List Tok := if f.op.toList = [] then [f.tok] else f.tok :: (toksU f.kids ++ [closeTok f.tok f.op])
theorem toksU_cons (f : Fr) (r : List Fr) : toksU (f :: r) = tokFU f ++ toksU r := by cases f; rw [toksU]; rfl
theorem toksU_app : ∀ a b : List Fr, toksU (a ++ b) = toksU a ++ toksU b
  | [], b => by simp [toksU]
  | f :: a, b => by rw [List.cons_append, toksU_cons, toksU_cons, toksU_app a b, List.append_assoc]
/-- The tokens of the groups of a reader, the innermost one first. -/
def emL : List Grp → List Tok
  | [] => []
  | [g] => toksU g.kids
  | g :: g2 :: r => emL (g2 :: r) ++ (g.tok :: toksU g.kids)
theorem emL_add (g : Grp) (f : Fr) (r : List Grp) : emL (addF g f :: r) = emL (g :: r) ++ toksU [f] := by
  cases r with
  | nil => simp only [emL, addF, toksU_app]
  | cons a b => simp only [emL, addF, toksU_app, List.append_assoc, List.cons_append]
theorem toksU_one (f : Fr) : toksU [f] = tokFU f := by rw [toksU_cons, toksU, List.append_nil]

/-- What holds of the groups: all but the outermost one have an opening, which is their valid token's text; the outermost one has none; no fragment without groups closes. -/
structure GI (ws : List ByteArray) (l : List Grp) : Prop where
  grp : ∀ g ∈ l.dropLast, g.op = g.tok.text ∧ tokOk g.tok = true ∧ (clo ws g.op.toList).isSome = true
  last : (l.getLast?.map Grp.op) = some ⟨#[]⟩
  kid : ∀ g ∈ l, ∀ f ∈ g.kids, f.op.toList = [] → isCl f.tok = false
theorem GI.add {ws : List ByteArray} {g : Grp} {r : List Grp} {f : Fr} (h : GI ws (g :: r)) (hf : f.op.toList = [] → isCl f.tok = false) : GI ws (addF g f :: r) := by
  obtain ⟨h1, h2, h3⟩ := h
  refine ⟨?_, ?_, ?_⟩
  · cases r with
    | nil => intro x hx; cases hx
    | cons a b =>
      intro x hx
      rw [List.dropLast_cons_cons] at hx
      rcases List.mem_cons.1 hx with rfl | hx
      · exact h1 g (by rw [List.dropLast_cons_cons]; exact List.mem_cons_self)
      · exact h1 x (by rw [List.dropLast_cons_cons]; exact List.mem_cons_of_mem _ hx)
  · cases r with
    | nil => exact h2
    | cons a b => simpa [List.getLast?_cons_cons] using h2
  · intro x hx f' hf' ho
    rcases List.mem_cons.1 hx with rfl | hx
    · rcases List.mem_append.1 hf' with h | h
      · exact h3 g List.mem_cons_self f' h ho
      · obtain rfl := List.mem_singleton.1 h
        exact hf ho
    · exact h3 x (List.mem_cons_of_mem _ hx) f' hf' ho
theorem GI.pop {ws : List ByteArray} {g g2 : Grp} {r : List Grp} (h : GI ws (g :: g2 :: r)) : GI ws (g2 :: r) ∧ g.op = g.tok.text ∧ tokOk g.tok = true ∧ (clo ws g.op.toList).isSome = true := by
  obtain ⟨h1, h2, h3⟩ := h
  refine ⟨⟨fun x hx => h1 x (by rw [List.dropLast_cons_cons]; exact List.mem_cons_of_mem _ hx), by simpa [List.getLast?_cons_cons] using h2, fun x hx => h3 x (List.mem_cons_of_mem _ hx)⟩, h1 g (by rw [List.dropLast_cons_cons]; exact List.mem_cons_self)⟩
theorem GI.push {ws : List ByteArray} {g g2 : Grp} {r : List Grp} (h : GI ws (g2 :: r)) (h1 : g.op = g.tok.text) (h2 : tokOk g.tok = true) (h3 : (clo ws g.op.toList).isSome = true) (h4 : g.kids = []) : GI ws (g :: g2 :: r) := by
  obtain ⟨a1, a2, a3⟩ := h
  refine ⟨?_, by simpa [List.getLast?_cons_cons] using a2, ?_⟩
  · intro x hx
    rw [List.dropLast_cons_cons] at hx
    rcases List.mem_cons.1 hx with rfl | hx
    · exact ⟨h1, h2, h3⟩
    · exact a1 x hx
  · intro x hx f hf ho
    rcases List.mem_cons.1 hx with rfl | hx
    · rw [h4] at hf; cases hf
    · exact a3 x hx f hf ho
theorem GI.base {ws : List ByteArray} {g : Grp} (h : GI ws [g]) : g.op = ⟨#[]⟩ := by simpa using h.last
section
variable {ts : List Tok} {ws : List ByteArray}
theorem pDrop_at : ∀ {k : Nat} {s s' : Rst}, pDrop ts k s = .ok s' → s'.at_ = s.at_ + k
  | 0, _, _, h => by cases h; rfl
  | k + 1, s, s', h => by
    simp only [pDrop] at h
    split at h
    · split at h
      · have := pDrop_at h
        simp only at this; omega
      · cases h
    · cases h
/-- What find? finds in the law's lists of names. -/
def dropN (ts : List Tok) (s : Rst) : Option (List ByteArray) := (repeats s.g.op s.g.kids).find? (fun names => nextAre ts s.at_ names && stopsAt ts (s.at_ + 1 + names.length))
/-- The three ways of a step. -/
theorem pTake_cases {s s' : Rst} {t : Tok} (ht : ts[s.at_]? = some t) (h : pTake ts ws s = .ok s') :
    (isCl t = true ∧ ∃ g2 rest, s.stk = g2 :: rest ∧ (closeTok s.g.tok s.g.op).text = t.text ∧ s'.g = addF g2 (.mk s.g.tok s.g.op s.g.kids) ∧ s'.stk = rest ∧
      ((clo ws s.g.op.toList = some false ∧ s'.at_ = s.at_) ∨ (clo ws s.g.op.toList = some true ∧ ((dropN ts s = none ∧ s'.at_ = s.at_) ∨ ∃ names, dropN ts s = some names ∧ s'.at_ = s.at_ + names.length)))) ∨
    (isCl t = false ∧ pOpens ts ws s t = true ∧ s.stk.length + 1 ≤ 100 ∧ s' = ⟨s.at_, ⟨t, t.text, [], s.at_⟩, s.g :: s.stk⟩) ∨
    (isCl t = false ∧ pOpens ts ws s t = false ∧ s' = ⟨s.at_, addF s.g (.mk t ⟨#[]⟩ []), s.stk⟩) := by
  have hE : ∀ s1, pEnd ts s = .ok s1 → ∃ g2 rest, s.stk = g2 :: rest ∧ (closeTok s.g.tok s.g.op).text = t.text ∧ s1.g = addF g2 (.mk s.g.tok s.g.op s.g.kids) ∧ s1.stk = rest ∧ s1.at_ = s.at_ := fun s1 he => by
    unfold pEnd at he
    rw [ht] at he
    cases hk : s.stk with
    | nil => rw [hk] at he; cases he
    | cons g2 rest =>
      rw [hk] at he
      simp only at he
      split at he
      · cases he
      · rename_i hne
        cases he
        exact ⟨g2, rest, rfl, ba_ext (by simpa using hne), rfl, rfl, rfl⟩
  unfold pTake at h
  rw [ht] at h
  simp only at h
  cases hc : isCl t with
  | true =>
    rw [hc] at h
    simp only [if_true] at h
    refine .inl ⟨rfl, ?_⟩
    cases hcl : clo ws s.g.op.toList with
    | none => rw [hcl] at h; cases h
    | some b =>
      rw [hcl] at h
      cases b with
      | false =>
        obtain ⟨g2, rest, h1, h2, h3, h4, h5⟩ := hE s' h
        exact ⟨g2, rest, h1, h2, h3, h4, .inl ⟨rfl, h5⟩⟩
      | true =>
        simp only at h
        unfold pNamed at h
        cases he : pEnd ts s with
        | bad e i => rw [he] at h; cases h
        | ok s1 =>
          rw [he] at h
          simp only at h
          obtain ⟨g2, rest, h1, h2, h3, h4, h5⟩ := hE s1 he
          cases hf : dropN ts s with
          | none =>
            unfold dropN at hf
            rw [hf] at h
            cases h
            exact ⟨g2, rest, h1, h2, h3, h4, .inr ⟨rfl, .inl ⟨rfl, h5⟩⟩⟩
          | some names =>
            unfold dropN at hf
            rw [hf] at h
            simp only at h
            obtain ⟨a, b, _⟩ := pDrop_same h
            have := pDrop_at h
            exact ⟨g2, rest, h1, h2, a.trans h3, b.trans h4, .inr ⟨rfl, .inr ⟨names, rfl, by omega⟩⟩⟩
  | false =>
    rw [hc] at h
    simp only [Bool.false_eq_true, if_false] at h
    cases ho : pOpens ts ws s t with
    | true =>
      rw [ho] at h
      simp only [if_true] at h
      split at h
      · cases h
      · cases h; exact .inr (.inl ⟨rfl, rfl, by omega, rfl⟩)
    | false =>
      rw [ho] at h
      simp only [Bool.false_eq_true, if_false] at h
      cases h; exact .inr (.inr ⟨rfl, rfl, rfl⟩)

def emTok (s : Rst) (t : Tok) : Tok := if isCl t = true then closeTok s.g.tok s.g.op else t
def adv (s : Rst) : Rst := { s with at_ := s.at_ + 1 }
structure Inv (ws : List ByteArray) (s : Rst) : Prop where
  gi : GI ws (s.g :: s.stk)
  top : s.g.op.toList ≠ [] → (s.g.kids = [] ∧ s.g.from_ + 1 = s.at_) ∨ (s.g.kids ≠ [] ∧ s.g.from_ + 1 < s.at_)
  low : ∀ g ∈ s.stk, g.op.toList ≠ [] → g.from_ + 1 < s.at_
theorem closeTok_kind {t t2 : Tok} {op : ByteArray} (h : (closeTok t op).text = t2.text) (h2 : tokOk t2 = true) : tK (closeTok t op) = tK t2 := by
  have hk : (qKind t2.text.data.toList : Int) = t2.kind := by
    unfold tokOk at h2
    simp only [Bool.and_eq_true, Bool.not_eq_true', bne_eq_false_iff_eq] at h2
    exact h2.1.1.1.2
  unfold tK
  rw [h]
  congr 1
  rw [← hk, ← h]
  unfold closeTok
  split
  · exact (by decide +kernel : (5 : Int) = (qKind (bs1 41).data.toList : Int))
  · split
    · exact (by decide +kernel : (5 : Int) = (qKind (bs1 93).data.toList : Int))
    · split
      · exact (by decide +kernel : (5 : Int) = (qKind (bs1 125).data.toList : Int))
      · exact (by decide +kernel : (1 : Int) = (qKind tEnd.data.toList : Int))
theorem closeTok_ok {t : Tok} (op : ByteArray) (h : tokOk t = true) : tokOk (closeTok t op) = true := by
  have hk : decide (t.at_ < 0) = false ∧ decide (t.mark < 0) = false := by
    unfold tokOk at h
    simp only [Bool.and_eq_true, Bool.not_eq_true'] at h
    exact ⟨h.1.2, h.2⟩
  have key : ∀ (k : Int) (x : ByteArray), (!((qKind x.data.toList : Int) == 0) && !((qKind x.data.toList : Int) != k) && !((0 : Int) != qValue (qKind x.data.toList) x.data.toList)) = true → tokOk ⟨k, 0, x, t.at_, t.mark⟩ = true := fun k x hx => by
    unfold tokOk
    simp only
    rw [hx, hk.1, hk.2]
    rfl
  unfold closeTok
  split
  · exact key _ _ (by decide +kernel)
  · split
    · exact key _ _ (by decide +kernel)
    · split
      · exact key _ _ (by decide +kernel)
      · exact key _ _ (by decide +kernel)
theorem opens_clo {s : Rst} {t : Tok} (h : pOpens ts ws s t = true) : (clo ws t.text.toList).isSome = true := by
  unfold pOpens at h
  simp only [Bool.and_eq_true] at h
  exact h.1
/-- **A STEP.** -/
theorem step_inv {s s' : Rst} {t : Tok} (hc0 : clo ws [] = none) (hi : Inv ws s) (ht : ts[s.at_]? = some t) (hok : tokOk t = true) (h : pTake ts ws s = .ok s') :
    Inv ws (adv s') ∧ emL (s'.g :: s'.stk) = emL (s.g :: s.stk) ++ [emTok s t] ∧ tK (emTok s t) = tK t ∧ tokOk (emTok s t) = true ∧ (isCl t = false → s'.at_ = s.at_) ∧ s.at_ ≤ s'.at_ := by
  have hne : ∀ {x : ByteArray}, (clo ws x.toList).isSome = true → x.toList ≠ [] := fun hs e => by rw [e, hc0] at hs; cases hs
  rcases pTake_cases ht h with ⟨hcl, g2, rest, h1, h2, h3, h4, h5⟩ | ⟨hcl, h1, h2, rfl⟩ | ⟨hcl, h1, rfl⟩
  · have hge : s.at_ ≤ s'.at_ := by
      rcases h5 with ⟨_, h⟩ | ⟨_, ⟨_, h⟩ | ⟨names, _, h⟩⟩ <;> omega
    have hem : emTok s t = closeTok s.g.tok s.g.op := if_pos hcl
    have hgi := hi.gi
    rw [h1] at hgi
    obtain ⟨p1, p2, p3, p4⟩ := hgi.pop
    refine ⟨⟨?_, ?_, ?_⟩, ?_, ?_, ?_, (fun h => by rw [hcl] at h; cases h), hge⟩
    · show GI ws (s'.g :: s'.stk)
      rw [h3, h4]
      exact p1.add fun ho => absurd ho (hne p4)
    · intro ho
      refine .inr ⟨by show s'.g.kids ≠ []; rw [h3]; simp [addF], ?_⟩
      have := hi.low g2 (by rw [h1]; exact List.mem_cons_self) (by show g2.op.toList ≠ []; have e : s'.g.op = g2.op := by rw [h3]; rfl
                                                                   rw [← e]; exact ho)
      show s'.g.from_ + 1 < ((s'.at_ + 1 : Nat) : Int)
      rw [h3]
      show g2.from_ + 1 < _
      omega
    · intro g hg ho
      have := hi.low g (by rw [h1]; exact List.mem_cons_of_mem _ (by rw [← h4]; exact hg)) ho
      show g.from_ + 1 < ((s'.at_ + 1 : Nat) : Int)
      omega
    · rw [h3, h4, emL_add, h1, hem, toksU_one]
      have e : tokFU (.mk s.g.tok s.g.op s.g.kids) = s.g.tok :: (toksU s.g.kids ++ [closeTok s.g.tok s.g.op]) := if_neg (hne p4)
      rw [e]
      show _ = (emL (g2 :: rest) ++ (s.g.tok :: toksU s.g.kids)) ++ _
      simp [List.append_assoc]
    · rw [hem]; exact closeTok_kind h2 hok
    · rw [hem]; exact closeTok_ok _ p3
  · have hem : emTok s t = t := if_neg (by rw [hcl]; simp)
    refine ⟨⟨?_, ?_, ?_⟩, ?_, by rw [hem], by rw [hem]; exact hok, fun _ => rfl, Nat.le_refl _⟩
    · exact hi.gi.push rfl hok (opens_clo h1) rfl
    · intro _
      exact .inl ⟨rfl, rfl⟩
    · intro g hg ho
      show g.from_ + 1 < ((s.at_ + 1 : Nat) : Int)
      rcases List.mem_cons.1 hg with rfl | hg
      · rcases hi.top ho with ⟨_, h⟩ | ⟨_, h⟩ <;> omega
      · have := hi.low g hg ho; omega
    · rw [hem]
      show emL (_ :: s.g :: s.stk) = _
      simp [emL, toksU]
  · have hem : emTok s t = t := if_neg (by rw [hcl]; simp)
    refine ⟨⟨?_, ?_, ?_⟩, ?_, by rw [hem], by rw [hem]; exact hok, fun _ => rfl, Nat.le_refl _⟩
    · exact hi.gi.add fun _ => hcl
    · intro ho
      refine .inr ⟨by simp [adv, addF], ?_⟩
      show s.g.from_ + 1 < ((s.at_ + 1 : Nat) : Int)
      rcases hi.top ho with ⟨_, h⟩ | ⟨_, h⟩ <;> omega
    · intro g hg ho
      have := hi.low g hg ho
      show g.from_ + 1 < ((s.at_ + 1 : Nat) : Int)
      omega
    · rw [emL_add, hem, toksU_one]
      unfold tokFU
      rw [if_pos (by exact nil_toList)]
      rfl
end
section
variable {ts : List Tok} {ws : List ByteArray}
theorem nextAre_hd {l : List Tok} {i : Nat} {a : ByteArray} {r : List ByteArray} : nextAre l i (a :: r) = true ↔ (l[i + 1]?).map tK = some (1, a) ∧ nextAre l (i + 1) r = true := by
  simp only [nextAre, Bool.and_eq_true]
  cases l[i + 1]? with
  | none => simp
  | some t => simp [isNm_K]
end
section
variable {ts : List Tok} {ws : List ByteArray}
def er (g : Grp) : Tok × ByteArray × List Fr := (g.tok, g.op, g.kids)
end
section
variable {ts : List Tok} {ws : List ByteArray}
theorem nextAre_names : ∀ {names : List ByteArray} {i : Nat}, nextAre ts i names = true → ∀ j, j < names.length → ∃ t, ts[i + 1 + j]? = some t ∧ t.kind = 1
  | [], _, _, j, hj => by cases hj
  | a :: r, i, h, j, hj => by
    obtain ⟨h1, h2⟩ := nextAre_hd.1 h
    cases j with
    | zero =>
      cases ht : ts[i + 1]? with
      | none => rw [ht] at h1; cases h1
      | some t =>
        rw [ht] at h1
        simp only [Option.map_some, Option.some.injEq] at h1
        exact ⟨t, rfl, congrArg Prod.fst h1⟩
    | succ j =>
      obtain ⟨t, a, b⟩ := nextAre_names h2 j (by simpa using hj)
      exact ⟨t, by rw [show i + 1 + (j + 1) = i + 1 + 1 + j by omega]; exact a, b⟩
end
theorem st0_inv (ws : List ByteArray) : Inv ws st0 := by
  refine ⟨⟨fun g hg => ?_, rfl, fun g hg f hf => ?_⟩, fun h => absurd nil_toList h, fun g hg => ?_⟩
  · cases hg
  · obtain rfl := List.mem_singleton.1 hg
    cases hf
  · cases hg
end Go.Proofs.YtopbmndjnjnmcaaGreatDoor
/- (A1body) -/
namespace Go.Proofs.YtopbmndjnjnmcaaGreatDoor
open Go.RowKit Lx
attribute [local go_sem] Oper.semAt_some

set_option maxRecDepth 100000 in
set_option maxHeartbeats 8000000 in
/-- **Alike**, strict, of equal lists -/
theorem alikeS_any (S S2 : Nat → Prop) : ∀ (n : Nat) (l : List Fr) (v v2 : Value) (w : World), fsz l < n → FrRead w S v l → FrRead w S2 v2 l →
    Calls Tryz.prog 20 #[v, v2, .bool false] w fun e W => e = .returned (.bool true) ∧ Below w.heap.size w W := by
  intro n
  induction n with
  | zero => intro l v v2 w h; omega
  | succ n ih =>
    intro l v v2 w hn hr hr2
    obtain ⟨va, vc, vg, vo, rfl, ⟨hm1, hm2⟩, ha, hat⟩ := hr
    obtain ⟨ua, uc, ug, uo, rfl, ⟨hu1, hu2⟩, hua, huat⟩ := hr2
    have HAT := Lib.hid hat
    have HA := Lib.hid ha
    have HUT := Lib.hid huat
    have HU := Lib.hid hua
    unfold maxLen at hm1 hu1
    clear hat ha huat hua
    go_enter Tryz.func20, Tryz.ntmps20
    go_wp2_with fail
    go_loopw [7] (fun x wr => ∃ (k : Nat), k ≤ l.length ∧ x = .int .i64 k ∧ Hid (Below w.heap.size w wr)) (fun x _ => l.length - (intOf x).toNat)
    case atStart => exact ⟨0, by omega, rfl, Lib.hid (Below.refl _ _)⟩
    case round =>
      obtain ⟨k, hk, rfl, HB⟩ := hrel
      by_cases hlt : k < l.length
      · obtain ⟨f, hf⟩ : ∃ f, l[k]? = some f := ⟨_, List.getElem?_eq_getElem hlt⟩
        have hva : va = some ⟨vg, vo, none⟩ := HA.out (by intro h; rw [h] at hlt; simp at hlt)
        have hua : ua = some ⟨ug, uo, none⟩ := HU.out (by intro h; rw [h] at hlt; simp at hlt)
        subst hva hua
        obtain ⟨kv, hs, hg, c0, c1, c2, c3, c4, c5, c6, hkr⟩ := HAT.out.get hf
        obtain ⟨kv2, hs2, hgu, d0, d1, d2, d3, d4, d5, d6, hkr2⟩ := HUT.out.get hf
        have hfn : fsz f.kids < n := by have := fsz_kids hf; omega
        obtain ⟨tk, htk⟩ : ∃ t, f.tok.kind = t := ⟨_, rfl⟩
        obtain ⟨tn, htn⟩ : ∃ t, f.tok.num = t := ⟨_, rfl⟩
        obtain ⟨tt, htt⟩ : ∃ t, f.tok.text = t := ⟨_, rfl⟩
        obtain ⟨ta, hta⟩ : ∃ t, f.tok.at_ = t := ⟨_, rfl⟩
        obtain ⟨tm, htm⟩ : ∃ t, f.tok.mark = t := ⟨_, rfl⟩
        obtain ⟨fo, hfo⟩ : ∃ t, f.op = t := ⟨_, rfl⟩
        rw [htk] at c0 d0
        rw [htn] at c1 d1
        rw [htt] at c2 d2
        rw [hta] at c3 d3
        rw [htm] at c4 d4
        rw [hfo] at c5 d5
        have m0 := (HB.out.cell (p := ⟨vg, vo + k * 7, none⟩) hg).trans c0
        have m1 := (HB.out.cell (p := ⟨vg, vo + k * 7 + 1, none⟩) hg).trans c1
        have m2 := (HB.out.cell (p := ⟨vg, vo + k * 7 + 2, none⟩) hg).trans c2
        have m3 := (HB.out.cell (p := ⟨vg, vo + k * 7 + 3, none⟩) hg).trans c3
        have m4 := (HB.out.cell (p := ⟨vg, vo + k * 7 + 4, none⟩) hg).trans c4
        have h1 := (Below.refl wr.heap.size wr).alloc (Nat.le_refl _) (.cells #[.int .i64 tk, .int .i64 tn, .string tt, .int .i64 ta, .int .i64 tm] 50)
        have b1 := HB.out.trans (h1.mono HB.out.size)
        have n0 := (b1.cell (p := ⟨ug, uo + k * 7, none⟩) hgu).trans d0
        have n1 := (b1.cell (p := ⟨ug, uo + k * 7 + 1, none⟩) hgu).trans d1
        have n2 := (b1.cell (p := ⟨ug, uo + k * 7 + 2, none⟩) hgu).trans d2
        have n3 := (b1.cell (p := ⟨ug, uo + k * 7 + 3, none⟩) hgu).trans d3
        have n4 := (b1.cell (p := ⟨ug, uo + k * 7 + 4, none⟩) hgu).trans d4
        have h2 := (Below.refl _ (wr.alloc (.cells #[.int .i64 tk, .int .i64 tn, .string tt, .int .i64 ta, .int .i64 tm] 50))).alloc (Nat.le_refl _) (.cells #[.int .i64 tk, .int .i64 tn, .string tt, .int .i64 ta, .int .i64 tm] 50)
        have b2 := b1.trans (h2.mono b1.size)
        have q5 := (b2.cell (p := ⟨vg, vo + k * 7 + 5, none⟩) hg).trans c5
        have q6 := (b2.cell (p := ⟨vg, vo + k * 7 + 6, none⟩) hg).trans c6
        have r5 := (b2.cell (p := ⟨ug, uo + k * 7 + 5, none⟩) hgu).trans d5
        have r6 := (b2.cell (p := ⟨ug, uo + k * 7 + 6, none⟩) hgu).trans d6
        have k1 : (k : Int) < (l.length : Int) := by omega
        have hlw : wr.heap.size = wr.heap.size := rfl
        have HIH := Lib.hid (fun (W : World) (hb : Below w.heap.size w W) => ih f.kids kv kv2 W hfn (hkr.bl hb) (hkr2.bl hb))
        have z5 : (((wr.alloc (.cells #[.int .i64 tk, .int .i64 tn, .string tt, .int .i64 ta, .int .i64 tm] 50)).alloc (.cells #[.int .i64 tk, .int .i64 tn, .string tt, .int .i64 ta, .int .i64 tm] 50)).drew).cell? ⟨vg, vo + k * 7 + 5, none⟩ = some (.string fo) := q5
        have z6 : (((wr.alloc (.cells #[.int .i64 tk, .int .i64 tn, .string tt, .int .i64 ta, .int .i64 tm] 50)).alloc (.cells #[.int .i64 tk, .int .i64 tn, .string tt, .int .i64 ta, .int .i64 tm] 50)).drew).cell? ⟨vg, vo + k * 7 + 6, none⟩ = some kv := q6
        have x5 : (((wr.alloc (.cells #[.int .i64 tk, .int .i64 tn, .string tt, .int .i64 ta, .int .i64 tm] 50)).alloc (.cells #[.int .i64 tk, .int .i64 tn, .string tt, .int .i64 ta, .int .i64 tm] 50)).drew).cell? ⟨ug, uo + k * 7 + 5, none⟩ = some (.string fo) := r5
        have x6 : (((wr.alloc (.cells #[.int .i64 tk, .int .i64 tn, .string tt, .int .i64 ta, .int .i64 tm] 50)).alloc (.cells #[.int .i64 tk, .int .i64 tn, .string tt, .int .i64 ta, .int .i64 tm] 50)).drew).cell? ⟨ug, uo + k * 7 + 6, none⟩ = some kv2 := r6
        have BD := Lib.hid b2.drew
        clear c0 c1 c2 c3 c4 c5 c6 d0 d1 d2 d3 d4 d5 d6 hs hs2 hkr hkr2 h1 h2 b1 b2 hf htk htn htt hta htm hfo hfn hlw
        go_upto_region 9 with fail
        go_region_held3 (fun w' => w'.cell? ⟨vg, vo + k * 7 + 5, none⟩ = some (.string fo) ∧ w'.cell? ⟨vg, vo + k * 7 + 6, none⟩ = some kv ∧ w'.cell? ⟨ug, uo + k * 7 + 5, none⟩ = some (.string fo) ∧ w'.cell? ⟨ug, uo + k * 7 + 6, none⟩ = some kv2)
          (first | exact ⟨z5, z6, x5, x6⟩ | exact ⟨q5, q6, r5, r6⟩ | exact ⟨u5, u6, y5, y6⟩ | go_keep)
          (first
            | (go_at_call 20; go_must (refine (HIH.out _ BD.out).mono ?_); rintro e W5 ⟨rfl, hb5⟩; have B5 := Lib.hid (BD.out.trans (hb5.mono BD.out.size)); have u5 := (hb5.cell (p := ⟨vg, vo + k * 7 + 5, none⟩) (block_lt z5)).trans z5; have u6 := (hb5.cell (p := ⟨vg, vo + k * 7 + 6, none⟩) (block_lt z6)).trans z6; have y5 := (hb5.cell (p := ⟨ug, uo + k * 7 + 5, none⟩) (block_lt x5)).trans x5; have y6 := (hb5.cell (p := ⟨ug, uo + k * 7 + 6, none⟩) (block_lt x6)).trans x6))
        go_wp2_with fail
        go_roundw
        case rel => exact ⟨k + 1, by omega, rfl, B5⟩
        case measure => simp [intOf]; omega
      · obtain rfl : k = l.length := by omega
        go_wp2_with fail
        go_ret
        exact ⟨rfl, HB.out⟩
end Go.Proofs.YtopbmndjnjnmcaaGreatDoor
/- (P10body) -/
namespace Go.Proofs.YtopbmndjnjnmcaaGreatDoor
open Go.RowKit Lx
section
variable {ts : List Tok} {ws : List ByteArray}
end
end Go.Proofs.YtopbmndjnjnmcaaGreatDoor
/- (W7body) -/
namespace Go.Proofs.YtopbmndjnjnmcaaGreatDoor
open Go.RowKit Lx
attribute [local go_sem] Oper.semAt_some

end Go.Proofs.YtopbmndjnjnmcaaGreatDoor

/- Package fragment: the list of one reading behind that of another, a part of a reading; the reference's Size and Ends. -/
namespace Go.Proofs.YtopbmndjnjnmcaaGreatDoor
open Go.RowKit Lx
/- (P11) -/
section
variable {ts us : List Tok} {ws : List ByteArray}
end
/- (P12) -/
section
variable {ts tt : List Tok} {ws : List ByteArray}
end
/- (P13) -/
section
variable {ts us : List Tok} {ws : List ByteArray}
end
/- (P14) -/
section
variable {ts : List Tok} {ws : List ByteArray}
end
/- (P15) -/
attribute [local go_sem] Oper.semAt_some

theorem FrAt.cells {W : World} {S : Nat → Prop} : ∀ {l : List Fr} {g o : Nat}, FrAt W S g o l → ∃ xs, KidsC W S l xs ∧ ∀ j u, xs[j]? = some u → W.cell? ⟨g, o + j, none⟩ = some u
  | [], g, o, _ => ⟨[], rfl, fun j u h => by simp at h⟩
  | .mk t op ks :: l, g, o, h => by
    cases h with
    | @cons _ _ _ _ _ _ a c g' o' hs hg h0 h1 h2 h3 h4 h5 h6 hm ha hk hl =>
      obtain ⟨r, hr1, hr2⟩ := hl.cells
      refine ⟨frC t op (.slice a ks.length c) ++ r, ⟨_, r, rfl, ⟨a, c, g', o', rfl, hm, ha, hk⟩, hr1⟩, fun j u hj => ?_⟩
      rcases Nat.lt_or_ge j 7 with h7 | h7
      · rw [List.getElem?_append_left (by simpa [frC] using h7)] at hj
        match j, h7, hj with
        | 0, _, hj => cases hj; exact h0
        | 1, _, hj => cases hj; exact h1
        | 2, _, hj => cases hj; exact h2
        | 3, _, hj => cases hj; exact h3
        | 4, _, hj => cases hj; exact h4
        | 5, _, hj => cases hj; exact h5
        | 6, _, hj => cases hj; exact h6
      · rw [List.getElem?_append_right (by simpa [frC] using h7)] at hj
        have e : (frC t op (.slice a ks.length c)).length = 7 := rfl
        rw [e] at hj
        have := hr2 (j - 7) u hj
        rw [show o + j = o + 7 + (j - 7) by omega]
        exact this
theorem KidsC.one {W : World} {S : Nat → Prop} : ∀ {a : List Fr} {xs : List Value}, KidsC W S a xs → ∀ u ∈ xs, u.oneCell' = true
  | [], xs, h, u, hu => by cases (h : xs = []); cases hu
  | f :: a, xs, ⟨kv, r, hx, hf, hr⟩, u, hu => by
    subst hx
    rcases List.mem_append.1 hu with h | h
    · obtain ⟨_, _, _, _, rfl, _⟩ := hf
      simp [frC] at h
      rcases h with rfl | rfl | rfl | rfl | rfl | rfl | rfl <;> rfl
    · exact hr.one u h
def IdxPost (ws : List ByteArray) (x : ByteArray) (w : World) (e : Ending) (W : World) : Prop :=
  ∃ r : Int, e = .returned (.int .i64 r) ∧ -1 ≤ r ∧ r ≤ 9223372036854775807 ∧ (0 ≤ r ↔ (ws.any fun y => y.toList == x.toList) = true) ∧ W = w

set_option maxRecDepth 100000 in
/-- **R01.Index**, whether there is one -/
theorem refIndex_any (v : Value) (ws : List ByteArray) (x : ByteArray) (w : World) (hr : StrRead w v ws) :
    Calls Tryz.prog 67 #[v, .string x] w (IdxPost ws x w) := by
  obtain ⟨a, c, rfl, ⟨h1, h2⟩, hc⟩ := hr
  have HC := Lib.hid hc
  unfold maxLen at h1
  clear hc
  go_enter Tryz.func67, Tryz.ntmps67
  go_wp2_with fail
  go_loop [5] (fun y => ∃ k : Nat, k ≤ ws.length ∧ y = .int .i64 k ∧ Hid (((ws.take k).any fun y => y.toList == x.toList) = false)) (fun y => ws.length - (intOf y).toNat)
  case atStart => exact ⟨0, by omega, rfl, Lib.hid (by simp)⟩
  case round =>
    obtain ⟨k, hk, rfl, HK⟩ := hrel
    by_cases hlt : k < ws.length
    · obtain ⟨y, hy⟩ : ∃ y, ws[k]? = some y := ⟨_, List.getElem?_eq_getElem hlt⟩
      obtain ⟨g, o, rfl, hg, c0⟩ := HC.out k y hy
      have HY := Lib.hid hy
      have k1 : (k : Int) < (ws.length : Int) := by omega
      clear hy
      cases e1 : (y.toList == x.toList)
      · go_wp2_with fail
        go_round
        case rel => exact ⟨k + 1, by omega, by go_num, Lib.hid (by rw [List.take_add_one, HY.out, List.any_append, HK.out]; simpa using e1)⟩
        case measure => simp [intOf]; omega
      · go_wp2_with fail
        go_ret
        refine ⟨k, rfl, by omega, by omega, ⟨fun _ => ?_, fun _ => by omega⟩, rfl⟩
        rw [List.any_eq_true]
        exact ⟨y, List.mem_of_getElem? HY.out, e1⟩
    · obtain rfl : k = ws.length := by omega
      have h := HK.out
      rw [List.take_length] at h
      have HH := Lib.hid h
      clear h
      go_wp2_with fail
      go_ret
      exact ⟨-1, rfl, by omega, by omega, ⟨fun h => by omega, fun h => by rw [HH.out] at h; cases h⟩, rfl⟩

/- (P16) -/
end Go.Proofs.YtopbmndjnjnmcaaGreatDoor
