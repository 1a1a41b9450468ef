/- Package fragment: RightWords and Read of the reference (skerryref02), and the law FragReads. -/
import Derived.Test.YtopbmndjnjnmcaaGreatDoorSU
namespace Go.Proofs.YtopbmndjnjnmcaaGreatDoor
open Go.RowKit Lx
/- (U7) -/
attribute [local go_sem] Oper.semAt_some
theorem strTake2 {W : World} {a : Option Addr} {n c : Nat} {ws : List ByteArray} (h : StrRead W (.slice a n c) ws) {k : Nat} (hk : k ≤ ws.length) : StrRead W (.slice a k c) (ws.take k) := by
  obtain ⟨a', c', hv, ⟨h1, h2⟩, h⟩ := h
  simp only [Value.slice.injEq] at hv
  obtain ⟨rfl, _, rfl⟩ := hv
  have hl : (ws.take k).length = k := by rw [List.length_take]; omega
  refine ⟨_, c, by rw [hl], ⟨by omega, by omega⟩, fun j s hj => ?_⟩
  rw [List.getElem?_take] at hj
  split at hj
  · exact h j s hj
  · cases hj
def hasW (L : List ByteArray) (x : ByteArray) : Bool := L.any fun y => y.toList == x.toList
theorem hasW_cs (L : List ByteArray) (x : ByteArray) : hasW L x = Lib.containsS L x := by
  rw [Bool.eq_iff_iff, Lib.containsS_iff, hasW, List.any_eq_true]
  constructor
  · rintro ⟨y, hy, he⟩
    rw [← ba_ext (eq_of_beq he)]; exact hy
  · intro h
    exact ⟨x, h, by simp⟩
def dstTo (ws : List ByteArray) (k : Nat) : Bool := (List.range k).all fun i => !hasW (ws.take i) (ws.getD i ByteArray.empty)
def rgtTo (ws : List ByteArray) (k : Nat) : Bool := (List.range k).all fun i => wordOk (ws.getD i ByteArray.empty) && !hasW (givenW ++ [tEnd, tSlot]) (ws.getD i ByteArray.empty)
theorem dstTo_succ (ws : List ByteArray) (k : Nat) : dstTo ws (k + 1) = (dstTo ws k && !hasW (ws.take k) (ws.getD k ByteArray.empty)) := by simp [dstTo, List.range_succ]
theorem rgtTo_succ (ws : List ByteArray) (k : Nat) : rgtTo ws (k + 1) = (rgtTo ws k && (wordOk (ws.getD k ByteArray.empty) && !hasW (givenW ++ [tEnd, tSlot]) (ws.getD k ByteArray.empty))) := by simp [rgtTo, List.range_succ]
theorem dstTo_le {ws : List ByteArray} : ∀ {k n : Nat}, k ≤ n → dstTo ws k = false → dstTo ws n = false
  | k, 0, h, hf => by rw [Nat.le_zero.1 h] at hf; exact hf
  | k, n + 1, h, hf => by
    rcases Nat.lt_or_ge n k with h1 | h1
    · rw [show n + 1 = k by omega]; exact hf
    · rw [dstTo_succ, dstTo_le h1 hf, Bool.false_and]
theorem rgtTo_le {ws : List ByteArray} : ∀ {k n : Nat}, k ≤ n → rgtTo ws k = false → rgtTo ws n = false
  | k, 0, h, hf => by rw [Nat.le_zero.1 h] at hf; exact hf
  | k, n + 1, h, hf => by
    rcases Nat.lt_or_ge n k with h1 | h1
    · rw [show n + 1 = k by omega]; exact hf
    · rw [rgtTo_succ, rgtTo_le h1 hf, Bool.false_and]
theorem right_ok (ws : List ByteArray) : okWords ws = (decide (ws.length ≤ 40) && (dstTo ws ws.length && rgtTo ws ws.length)) := by
  unfold okWords
  congr 1
  rw [Bool.eq_iff_iff, Bool.and_eq_true, List.all_eq_true]
  unfold dstTo rgtTo
  rw [List.all_eq_true, List.all_eq_true]
  have key : ∀ i x, okWordsAt ws i x = ((!hasW (ws.take i) x) && (wordOk x && !hasW (givenW ++ [tEnd, tSlot]) x)) := fun i x => by
    have h1 : hasW (givenW ++ [tEnd, tSlot]) x = (hasW givenW x || hasW [tEnd, tSlot] x) := by unfold hasW; rw [List.any_append]
    rw [okWordsAt_eq, h1, hasW_cs, hasW_cs, hasW_cs]
    cases wordOk x <;> cases Lib.containsS [tEnd, tSlot] x <;> cases Lib.containsS givenW x <;> cases Lib.containsS (ws.take i) x <;> rfl
  constructor
  · intro h
    refine ⟨fun i hi => ?_, fun i hi => ?_⟩
    · have := h i hi; rw [key] at this; exact (Bool.and_eq_true _ _ ▸ this).1
    · have := h i hi; rw [key] at this; exact (Bool.and_eq_true _ _ ▸ this).2
  · rintro ⟨h1, h2⟩ i hi
    rw [key, h1 i hi, h2 i hi]; rfl
set_option maxRecDepth 100000 in
set_option maxHeartbeats 4000000 in
/-- **Distinct** -/
theorem rDistinct_any (v : Value) (ws : List ByteArray) (w : World) (hr : StrRead w v ws) :
    Calls Tryz.prog 75 #[v] w fun e W => e = .returned (.bool (dstTo ws ws.length)) ∧ Below w.heap.size w W := by
  have HR := Lib.hid hr
  obtain ⟨a, c, rfl, ⟨hn, hc⟩, hrr⟩ := hr
  have HC := Lib.hid hrr
  clear hrr
  unfold maxLen at hn
  obtain ⟨q, hq⟩ : ∃ q, dstTo ws ws.length = q := ⟨_, rfl⟩
  rw [hq]
  have HQ := Lib.hid hq
  clear hq
  go_enter Tryz.func75, Tryz.ntmps75
  go_wp2_with fail
  go_loopw [3] (fun y wr => ∃ k : Nat, k ≤ ws.length ∧ y = .int .i64 k ∧ Hid (dstTo ws k = true) ∧ Hid (Below w.heap.size w wr)) (fun y _ => ws.length - (intOf y).toNat)
  case atStart => exact ⟨0, by omega, rfl, Lib.hid (by simp [dstTo]), Lib.hid (Below.refl _ _)⟩
  case round =>
    obtain ⟨k, hk, rfl, HN, HB⟩ := hrel
    by_cases hlt : k < ws.length
    · obtain ⟨nm, hnm⟩ : ∃ nm, ws[k]? = some nm := ⟨_, List.getElem?_eq_getElem hlt⟩
      obtain ⟨g, o, rfl, hgw, s0⟩ := HC.out k nm hnm
      have s0' : wr.cell? ⟨g, o + k, none⟩ = some (.string nm) := (HB.out.cell (p := ⟨g, _, none⟩) hgw).trans s0
      have hok : dstTo ws (k + 1) = !hasW (ws.take k) nm := by rw [dstTo_succ, HN.out, Bool.true_and]; simp [List.getD, hnm]
      have HOK := Lib.hid hok
      have HTK := Lib.hid (strTake2 (HR.out.bl HB.out) (k := k) (by omega))
      have k1 : (k : Int) < (ws.length : Int) := by omega
      have k2 : (k : Int) ≤ (ws.length : Int) := by omega
      have k3 : (k : Int) ≤ (c : Int) := by omega
      clear hok s0 hnm
      go_wp2_with fail
      go_region_held3 (fun w' => w'.cell? ⟨g, o + k, none⟩ = some (.string nm)) (first | go_keep)
        (first
          | (go_at_call 67; refine (refIndex_any _ (ws.take k) nm _ (HTK.out.bl ((Below.refl _ wr).drew))).mono ?_; rintro e1 w1 ⟨ri, rfl, hr1, hr2, hr3, hw1⟩; have HR3 := Lib.hid hr3; have HW1 := Lib.hid hw1; have s1 : w1.cell? ⟨g, o + k, none⟩ = some (.string nm) := (by rw [hw1]; exact s0'); clear hr3 hw1))
      all_goals
        have HB1 : Hid (Below w.heap.size w w1) := Lib.hid (by rw [HW1.out]; exact HB.out.drew)
        cases hany : hasW (ws.take k) nm
        · have d0 : ri < 0 := by
            rcases Int.lt_or_le ri 0 with h | h
            · exact h
            · have := HR3.out.1 h; unfold hasW at hany; rw [hany] at this; cases this
          have d1 : decide (0 ≤ ri) = false := decide_eq_false (by omega)
          have HK1 : Hid (dstTo ws (k + 1) = true) := Lib.hid (by rw [HOK.out, hany]; rfl)
          go_wp2_with fail
          go_roundw
          case rel => exact ⟨k + 1, by omega, by go_num, HK1, HB1⟩
          case measure => simp [intOf]; omega
        · have d0 : 0 ≤ ri := HR3.out.2 (by unfold hasW at hany; exact hany)
          have d1 : decide (0 ≤ ri) = true := decide_eq_true d0
          have hqf : q = false := by rw [← HQ.out]; exact dstTo_le (k := k + 1) (by omega) (by rw [HOK.out, hany]; rfl)
          subst hqf
          go_wp2_with fail
          go_ret
          exact ⟨rfl, HB1.out⟩
    · obtain rfl : k = ws.length := by omega
      have hqt : q = true := by rw [← HQ.out]; exact HN.out
      subst hqt
      go_wp2_with fail
      go_ret
      exact ⟨rfl, HB.out⟩
set_option maxRecDepth 100000 in
set_option maxHeartbeats 8000000 in
/-- **RightWords** -/
theorem rRight_any (v : Value) (ws : List ByteArray) (w : World) (hz : ∀ s ∈ ws, s.size ≤ maxLen) (hr : StrRead w v ws) :
    Calls Tryz.prog 50 #[v] w fun e W => e = .returned (.bool (okWords ws)) ∧ Below w.heap.size w W := by
  have HR := Lib.hid hr
  have HZ := Lib.hid hz
  obtain ⟨a, c, rfl, ⟨hn, hc⟩, hrr⟩ := hr
  have HC := Lib.hid hrr
  obtain ⟨i0, hi0, hz0, hz1, hz2⟩ := info_parts info9z
  clear hrr hz
  unfold maxLen at hn
  obtain ⟨q, hq⟩ : ∃ q, okWords ws = q := ⟨_, rfl⟩
  rw [hq]
  rw [right_ok] at hq
  have HQ := Lib.hid hq
  clear hq
  go_enter Tryz.func50, Tryz.ntmps50
  by_cases h40 : 40 < ws.length
  · have hd : decide ((ws.length : Int) > 40) = true := decide_eq_true (by omega)
    have k40 : (40 : Int) < (ws.length : Int) := by omega
    have hqf : q = false := by rw [← HQ.out, decide_eq_false (by omega)]; rfl
    subst hqf
    go_wp2_with fail
    go_ret
    exact ⟨rfl, Below.refl _ _⟩
  · have hd : decide ((ws.length : Int) > 40) = false := decide_eq_false (by omega)
    have k40 : ¬ (40 : Int) < (ws.length : Int) := by omega
    obtain ⟨d, hdd⟩ : ∃ d, dstTo ws ws.length = d := ⟨_, rfl⟩
    have HD := Lib.hid (rDistinct_any _ ws w HR.out)
    rw [hdd] at HD
    have HQ2 : Hid ((d && rgtTo ws ws.length) = q) := Lib.hid (by rw [← HQ.out, decide_eq_true (by omega), hdd, Bool.true_and])
    clear hdd HQ
    go_wp2_with fail
    go_at_call 75
    refine HD.out.mono ?_
    rintro e W1 ⟨rfl, hb1⟩
    have HB1 := Lib.hid hb1
    clear hb1
    cases d
    · have hqf : q = false := HQ2.out.symm
      subst hqf
      go_wp2_with fail
      go_ret
      exact ⟨rfl, HB1.out⟩
    · have HQ3 : Hid (rgtTo ws ws.length = q) := HQ2
      clear HQ2
      go_wp2_with fail
      go_at_call 19
      refine (rWords_any _).mono ?_
      rintro e W2 ⟨rfl, hw2⟩
      have hb2 : Below W1.heap.size W1 W2 := by subst hw2; exact (Below.refl _ W1).alloc (Nat.le_refl _) _
      have hO2 : W2.ownsRow W1.heap.size 9 1 (.slice (some ⟨W1.heap.size, 0, none⟩) 6 6) 6 (givenW.map Value.string) := by subst hw2; exact strs_alloc W1 givenW (by decide)
      have HB2 := Lib.hid (HB1.out.trans (hb2.mono HB1.out.size))
      have HB12 := Lib.hid hb2
      have HO2 := Lib.hid hO2
      have HOB := Lib.hid (owns_bl' hO2 ((Below.refl W2.heap.size W2).alloc (Nat.le_refl _) (.cells #[.string tEnd, .string tSlot] 9)))
      clear hb2 hO2 hw2
      have hs12 : W1.heap.size ≤ W2.heap.size := HB12.out.size
      go_wp2_with (at_builtin; go_must (refine wpList_append_lies _ rfl (.tmp 13) (.tmp 14) 23 rfl W1.heap.size 9 i0 _ 1 16 Tryz.underlying23 hi0 hz0 hz1 hz2 rfl (by omega) (.slice (some ⟨W1.heap.size, 0, none⟩) 6 6) 6 (givenW.map Value.string) (by rfl) HOB.out ⟨W2.heap.size, 0, none⟩ 2 2 [.string tEnd, .string tSlot] (by rfl) (by rfl) (World.news_of_block (t := 9) (fr := (0, 0)) (heap_alloc_new W2 _)) (by simp [Value.oneCell']) (by omega) (by unfold maxLen; omega) (by omega) (by simp only [World.size_alloc]; omega) (W2.heap.size + 1) (by simp only [World.size_alloc]) ?_); intro gg cap w10 hown1 hgrow hat hgl)
      have hst : StrRead w10 (.slice (some ⟨gg, 0, none⟩) 8 cap) (givenW ++ [tEnd, tSlot]) := strs_own (l := givenW ++ [tEnd, tSlot]) hown1 rfl
      have hb10 : Below w.heap.size w w10 := by
        have h1 := HB2.out.trans ((((Below.refl W2.heap.size W2).alloc (Nat.le_refl _) (.cells #[.string tEnd, .string tSlot] 9))).mono HB2.out.size)
        exact h1.grown hgrow (by have := HB2.out.size; rw [World.size_alloc]; omega) (fun k hk => by have : W1.heap.size = k := Option.some.inj hk; have := HB1.out.size; omega)
      have HST := Lib.hid hst
      have HB10 := Lib.hid hb10
      clear hown1 hgrow hat hgl hst hb10
      go_wp2_with fail
      go_loopw [4] (fun y wr => ∃ k : Nat, k ≤ ws.length ∧ y = .int .i64 k ∧ Hid (rgtTo ws k = true) ∧ Hid (Below w10.heap.size w10 wr)) (fun y _ => ws.length - (intOf y).toNat)
      case atStart => exact ⟨0, by omega, rfl, Lib.hid (by simp [rgtTo]), Lib.hid (Below.refl _ _)⟩
      case round =>
        obtain ⟨k, hk, rfl, HN, HB⟩ := hrel
        have HBW := Lib.hid (HB10.out.trans (HB.out.mono HB10.out.size))
        by_cases hlt : k < ws.length
        · obtain ⟨nm, hnm⟩ : ∃ nm, ws[k]? = some nm := ⟨_, List.getElem?_eq_getElem hlt⟩
          obtain ⟨g, o, rfl, hgw, s0⟩ := HC.out k nm hnm
          have s0' : wr.cell? ⟨g, o + k, none⟩ = some (.string nm) := (HBW.out.cell (p := ⟨g, _, none⟩) hgw).trans s0
          have hok : rgtTo ws (k + 1) = (wordOk nm && !hasW (givenW ++ [tEnd, tSlot]) nm) := by rw [rgtTo_succ, HN.out, Bool.true_and]; simp [List.getD, hnm]
          have HOK := Lib.hid hok
          have HBAD : Hid (rgtTo ws (k + 1) = false → q = false) := Lib.hid (fun h => by rw [← HQ3.out]; exact rgtTo_le (k := k + 1) (by omega) h)
          have hnz : nm.size ≤ maxLen := HZ.out nm (List.mem_of_getElem? hnm)
          obtain ⟨p1, hp1⟩ : ∃ p, ((qKind nm.data.toList == 1) && !decide (0 ≤ Lib.indexByte nm.data.toList 64)) = p := ⟨_, rfl⟩
          have hw1 : wordOk nm = p1 := hp1
          rw [hw1] at HOK
          have hplain := refIsPlain_any nm hnz
          rw [hp1] at hplain
          have HPL := Lib.hid hplain
          have k1 : (k : Int) < (ws.length : Int) := by omega
          clear hok s0 hnm hp1 hw1 hplain
          go_wp2_with fail
          go_at_call 76
          refine (HPL.out _).mono ?_
          rintro e W3 ⟨rfl, hb3⟩
          have s3 : W3.cell? ⟨g, o + k, none⟩ = some (.string nm) := (hb3.cell (p := ⟨g, _, none⟩) (cell_lt' s0')).trans s0'
          have HB3 := Lib.hid (HB.out.trans (hb3.mono HB.out.size))
          have HBW3 := Lib.hid (HBW.out.trans (hb3.mono HBW.out.size))
          have HS3 := Lib.hid (HST.out.bl HB3.out)
          clear hb3
          cases p1
          · have hqf : q = false := HBAD.out (by rw [HOK.out]; rfl)
            subst hqf
            go_wp2_with fail
            go_ret
            exact ⟨rfl, HBW3.out⟩
          · go_wp2_with fail
            go_at_call 67
            refine (refIndex_any _ (givenW ++ [tEnd, tSlot]) nm _ HS3.out).mono ?_
            rintro e W4 ⟨ri, rfl, hr1, hr2, hr3, rfl⟩
            have HR3 := Lib.hid hr3
            clear hr3
            cases hany : hasW (givenW ++ [tEnd, tSlot]) nm
            · have d0 : ri < 0 := by
                rcases Int.lt_or_le ri 0 with h | h
                · exact h
                · have := HR3.out.1 h; unfold hasW at hany; rw [hany] at this; cases this
              have d1 : decide (0 ≤ ri) = false := decide_eq_false (by omega)
              have HK1 : Hid (rgtTo ws (k + 1) = true) := Lib.hid (by rw [HOK.out, hany]; rfl)
              go_wp2_with fail
              go_roundw
              case rel => exact ⟨k + 1, by omega, by go_num, HK1, HB3⟩
              case measure => simp [intOf]; omega
            · have d0 : 0 ≤ ri := HR3.out.2 (by unfold hasW at hany; exact hany)
              have d1 : decide (0 ≤ ri) = true := decide_eq_true d0
              have hqf : q = false := HBAD.out (by rw [HOK.out, hany]; rfl)
              subst hqf
              go_wp2_with fail
              go_ret
              exact ⟨rfl, HBW3.out⟩
        · obtain rfl : k = ws.length := by omega
          have hqt : q = true := by rw [← HQ3.out]; exact HN.out
          subst hqt
          go_wp2_with fail
          go_ret
          exact ⟨rfl, HBW.out⟩
end Go.Proofs.YtopbmndjnjnmcaaGreatDoor
namespace Go.Proofs.YtopbmndjnjnmcaaGreatDoor
open Go.RowKit Lx
/- (U8) -/
attribute [local go_sem] Oper.semAt_some
theorem got_ret {fn : Func} {tmps : Array Value} {W : World} {g : Nat} {cs : Array Value} {Post : Ending → World → Prop} (hf : fn.results = #[.cell 4 30]) (hp : tmps.getD 4 undef = .pointer (some ⟨g, 0, none⟩)) (hg : W.heap[g]? = some (.cells cs 30 (0, 0))) (hs : cs.size = 3) (h : Post (.returned (.agg cs)) W) :
    bodyPost Tryz.prog fn Post Exit.ret { tmps := tmps, defers := [] } W :=
  bodyPost_ret (results_cell_row hf tmps W g 30 cs (0, 0) _ hp hg Tryz.underlying30 rfl (by rw [hs]; kernel_rfl)) rfl h
theorem got_cells {W : World} {g : Nat} {a0 a1 a2 : Value} (h : W.heap[g]? = some (.cells #[a0, a1, a2] 30 (0, 0))) :
    W.cell? ⟨g, 0, none⟩ = some a0 ∧ W.cell? ⟨g, 1, none⟩ = some a1 ∧ W.cell? ⟨g, 2, none⟩ = some a2 := by
  refine ⟨?_, ?_, ?_⟩ <;> (rw [cell_of_row _ _ _ _ _ _ h]; rfl)
theorem got_free {W : World} {g : Nat} {cs : Array Value} (h : W.heap[g]? = some (.cells cs 30 (0, 0))) (j : Nat) : W.frozen? ⟨g, j, none⟩ = false := by
  unfold World.frozen?
  simp [h]
def set3w (W : World) (g : Nat) (a0 a1 a2 : Value) : World := ((W.setCell ⟨g, 0, none⟩ a0).setCell ⟨g, 1, none⟩ a1).setCell ⟨g, 2, none⟩ a2
theorem set3w_heap {W : World} {g : Nat} {x0 x1 x2 : Value} (h : W.heap[g]? = some (.cells #[x0, x1, x2] 30 (0, 0))) (a0 a1 a2 : Value) : (set3w W g a0 a1 a2).heap[g]? = some (.cells #[a0, a1, a2] 30 (0, 0)) := by
  unfold set3w
  have h0 := heap_set' W g 0 a0 h
  have h1 := heap_set' _ g 1 a1 h0
  have h2 := heap_set' _ g 2 a2 h1
  simp only [List.setIfInBounds_toArray, List.set_cons_zero, List.set_cons_succ] at h2
  exact h2
theorem set3w_bel {w W : World} {g : Nat} (h : Below w.heap.size w W) (hg : w.heap.size ≤ g) (a0 a1 a2 : Value) : Below w.heap.size w (set3w W g a0 a1 a2) :=
  ((h.setCell (p := ⟨g, 0, none⟩) hg a0).setCell (p := ⟨g, 1, none⟩) hg a1).setCell (p := ⟨g, 2, none⟩) hg a2
theorem set3w_fr {W : World} {S : Nat → Prop} {v : Value} {l : List Fr} (h : FrRead W S v l) {g : Nat} (hg : ¬ S g) (a0 a1 a2 : Value) : FrRead (set3w W g a0 a1 a2) S v l := ((h.ne hg _ _).ne hg _ _).ne hg _ _
/-- How the reference's reading ends. -/
def GotEnd (res : Rd) (w : World) (e : Ending) (W : World) : Prop :=
  Below w.heap.size w W ∧ match res with
  | .ok l => ∃ v, e = .returned (.agg #[v, .int .i64 0, .int .i64 0]) ∧ FrRead W (fun _ => True) v l
  | .bad er j => e = .returned (.agg #[.slice none 0 0, .int .i64 j, .int .i64 er])
set_option maxRecDepth 100000 in
set_option maxHeartbeats 8000000 in
/-- **Read** of the reference -/
theorem rRead_any (ts : List Tok) (ws : List ByteArray) (vt vw : Value) (w : World) (hr : TokRead w vt ts) (hw : StrRead w vw ws) (hwn : ∀ n c, vw = .slice none n c → c = 0) (hz : ∀ s ∈ ws, s.size ≤ maxLen) (hzt : ∀ t ∈ ts, t.text.size ≤ maxLen) :
    Calls Tryz.prog 16 #[vt, vw] w fun e W => GotEnd (pRead ts ws) w e W := by
  have hb1 := (Below.refl w.heap.size w).alloc (Nat.le_refl _) (.cells #[.slice none 0 0, .int .i64 0, .int .i64 0] 30)
  have hN1 := heap_alloc_new w (.cells #[.slice none 0 0, .int .i64 0, .int .i64 0] 30)
  have HRT := Lib.hid (rRight_any vw ws (w.alloc (.cells #[.slice none 0 0, .int .i64 0, .int .i64 0] 30)) hz (hw.bl hb1))
  have HT := Lib.hid hr
  have HWW := Lib.hid hw
  have HWN := Lib.hid hwn
  have HZ := Lib.hid hz
  have HZT := Lib.hid hzt
  obtain ⟨ta, tc, rfl, ⟨hl1, hl2⟩, _⟩ := hr
  obtain ⟨wa, wc, rfl, ⟨hw1, hw2⟩, _⟩ := hw
  unfold maxLen at hl1 hw1
  have HB1 := Lib.hid hb1
  have HN1 := Lib.hid hN1
  obtain ⟨b4, hb4⟩ : ∃ b4, w.heap.size = b4 := ⟨_, rfl⟩
  have HB4 := Lib.hid hb4
  clear hb1 hN1 hwn hz hzt hb4
  go_enter Tryz.func16, Tryz.ntmps16
  go_wp2_with fail
  go_at_call 50
  refine HRT.out.mono ?_
  rintro e W2 ⟨rfl, hb2⟩
  have hN2 := (hb2.block w.heap.size (by rw [World.size_alloc]; omega)).trans HN1.out
  have HB2 := Lib.hid (HB1.out.trans (hb2.mono HB1.out.size))
  rw [HB4.out] at hN2 ⊢
  obtain ⟨z0, z1, z2⟩ := got_cells hN2
  have f0 := got_free hN2 0
  have f1 := got_free hN2 1
  have f2 := got_free hN2 2
  have HN2 := Lib.hid hN2
  clear hb2 hN2
  cases hok : okWords ws
  · have hp : pRead ts ws = .bad 1 0 := by unfold pRead; rw [if_pos hok]
    have HP := Lib.hid hp
    clear hp
    go_wp2_with fail
    refine got_ret rfl rfl (set3w_heap HN2.out (.slice none 0 0) (.int .i64 0) (.int .i64 1)) rfl ?_
    show GotEnd _ _ _ _
    rw [HP.out]
    exact ⟨set3w_bel HB2.out (by rw [HB4.out]; exact Nat.le_refl _) _ _ _, rfl⟩
  · by_cases h6 : 6000 < ts.length
    · have hp : pRead ts ws = .bad 2 0 := by unfold pRead; rw [hok, if_neg (by simp), if_pos h6]
      have HP := Lib.hid hp
      clear hp
      have d6 : decide ((ts.length : Int) > 6000) = true := decide_eq_true (by omega)
      have k6 : (6000 : Int) < (ts.length : Int) := by omega
      go_wp2_with fail
      refine got_ret rfl rfl (set3w_heap HN2.out (.slice none 0 0) (.int .i64 0) (.int .i64 2)) rfl ?_
      show GotEnd _ _ _ _
      rw [HP.out]
      exact ⟨set3w_bel HB2.out (by rw [HB4.out]; exact Nat.le_refl _) _ _ _, rfl⟩
    · have hp : pRead ts ws = V ts ws st0 := by unfold pRead; rw [hok, if_neg (by simp), if_neg h6]; exact V_read
      have HP := Lib.hid hp
      have d6 : decide ((ts.length : Int) > 6000) = false := decide_eq_false (by omega)
      have k6 : ¬ (6000 : Int) < (ts.length : Int) := by omega
      clear hp
      have h40 : ws.length ≤ 40 := by
        have := hok
        unfold okWords at this
        simp only [Bool.and_eq_true, decide_eq_true_eq] at this
        exact this.1
      have hb3 := (Below.refl W2.heap.size W2).alloc (Nat.le_refl _) (.cells #[.slice ta ts.length tc, .slice wa ws.length wc, .int .i64 0, .int .i64 0, .int .i64 0, .int .i64 0] 76)
      have hB3 := HB2.out.trans (hb3.mono HB2.out.size)
      have hR3 : RdR w.heap.size W2.heap.size (.slice ta ts.length tc) (.slice wa ws.length wc) ((st0.at_ : Nat) : Int) ((st0.stk.length : Nat) : Int) 0 0 (W2.alloc (.cells #[.slice ta ts.length tc, .slice wa ws.length wc, .int .i64 0, .int .i64 0, .int .i64 0, .int .i64 0] 76)) := ⟨HB2.out.size, heap_alloc_new W2 _⟩
      have hL := rList_any (ts := ts) (ws := ws) (B := w.heap.size) (r := W2.heap.size) (vt := .slice ta ts.length tc) (vw := .slice wa ws.length wc) (w0 := W2.alloc (.cells #[.slice ta ts.length tc, .slice wa ws.length wc, .int .i64 0, .int .i64 0, .int .i64 0, .int .i64 0] 76)) hok (by omega) HZT.out
        (fun W hW => HT.out.bl (hB3.trans hW)) (fun W hW => HWW.out.bl (hB3.trans hW)) HWN.out h40 (ts.length + 1) st0 (-1) _ (by simp [st0]) (Nat.zero_le _) (st0_inv ws) rfl (fun _ => rfl) (fun h => absurd rfl h) (by simp [st0]) (Below.refl _ _) hB3.size hR3
      have HL := Lib.hid hL
      have HB3 := Lib.hid hB3
      have HN3 := Lib.hid ((hb3.block b4 (by have := HB1.out.size; have := HB2.out.size; rw [World.size_alloc] at *; have := HB4.out; exact (Array.getElem?_eq_some_iff.1 HN2.out).1)).trans HN2.out)
      have hb4r : b4 < W2.heap.size := (Array.getElem?_eq_some_iff.1 HN2.out).1
      clear hb3 hB3 hR3 hL z0 z1 z2 f0 f1 f2
      go_wp2_with fail
      go_at_call 51
      refine HL.out.mono ?_
      rintro e W4 ⟨hg4, la, ln, lc, rfl, hp⟩
      have hN4 := (hg4.block b4 (by rw [World.size_alloc]; omega) (fun e => by have : b4 = W2.heap.size := Option.some.inj e; omega)).trans HN3.out
      have hB4 := gbelow hg4 HB2.out.size (by rw [World.size_alloc]; have := HB2.out.size; omega)
      have HB4' := Lib.hid (HB3.out.trans hB4)
      obtain ⟨z0, z1, z2⟩ := got_cells hN4
      have f0 := got_free hN4 0
      have f1 := got_free hN4 1
      have f2 := got_free hN4 2
      have HN4 := Lib.hid hN4
      clear hg4 hN4 hB4
      rcases hp with ⟨er, i, at', op', her, hVb, hR⟩ | ⟨_, l, at', hVo, hR, hF⟩ | ⟨hs0, _⟩
      · obtain ⟨_, _, _, _, c4, c5⟩ := hR.cells
        have d7 : ((er : Int) == 0) = false := by simpa using her
        have HVB := Lib.hid hVb
        clear hR hVb
        go_wp2_with fail
        go_region
        all_goals
          go_wp2_with fail
          refine got_ret (W := (set3w W4 b4 (.slice none 0 0) (.int .i64 i) (.int .i64 er)).drew) rfl rfl (set3w_heap HN4.out (.slice none 0 0) (.int .i64 i) (.int .i64 er)) rfl ?_
          show GotEnd _ _ _ _
          rw [HP.out, HVB.out]
          exact ⟨(set3w_bel HB4'.out (by rw [HB4.out]; exact Nat.le_refl _) _ _ _).drew, rfl⟩
      · obtain ⟨_, _, _, _, c4, c5⟩ := hR.cells
        have HVO := Lib.hid hVo
        have HF := Lib.hid hF
        clear hR hVo hF
        go_wp2_with fail
        refine got_ret rfl rfl (set3w_heap HN4.out (.slice la ln lc) (.int .i64 0) (.int .i64 0)) rfl ?_
        show GotEnd _ _ _ _
        rw [HP.out, HVO.out]
        refine ⟨set3w_bel HB4'.out (by rw [HB4.out]; exact Nat.le_refl _) _ _ _, _, rfl, (set3w_fr HF.out (g := b4) (by rw [World.size_alloc]; omega) _ _ _).keep fun b _ _ => ⟨rfl, trivial⟩⟩
      · exact absurd rfl hs0
end Go.Proofs.YtopbmndjnjnmcaaGreatDoor
namespace Go.Proofs.YtopbmndjnjnmcaaGreatDoor
open Go.RowKit Lx
/- (U9) -/
attribute [local go_sem] Oper.semAt_some
set_option maxRecDepth 100000 in
set_option maxHeartbeats 4000000 in
/-- **SameStrings** of equal lists -/
theorem rSame_any (v v2 : Value) (ws : List ByteArray) (w : World) (hr : StrRead w v ws) (hr2 : StrRead w v2 ws) :
    Calls Tryz.prog 17 #[v, v2] w fun e W => e = .returned (.bool true) ∧ Below w.heap.size w W := by
  obtain ⟨a, c, rfl, ⟨hn, hc⟩, hrr⟩ := hr
  obtain ⟨a2, c2, rfl, ⟨_, hc2⟩, hrr2⟩ := hr2
  have HC := Lib.hid hrr
  have HC2 := Lib.hid hrr2
  clear hrr hrr2
  unfold maxLen at hn
  have d0 : ((ws.length : Int) == (ws.length : Int)) = true := by simp
  go_enter Tryz.func17, Tryz.ntmps17
  go_wp2_with fail
  go_loopw [5, 6] (fun x y wr => ∃ k : Nat, k ≤ ws.length ∧ x = .bool true ∧ y = .int .i64 k ∧ Hid (Below w.heap.size w wr)) (fun _ y _ => ws.length - (intOf y).toNat)
  case atStart => exact ⟨0, by omega, by simp, rfl, Lib.hid (Below.refl _ _)⟩
  case round =>
    obtain ⟨k, hk, rfl, rfl, HB⟩ := hrel
    by_cases hlt : k < ws.length
    · obtain ⟨nm, hnm⟩ : ∃ nm, ws[k]? = some nm := ⟨_, List.getElem?_eq_getElem hlt⟩
      obtain ⟨g, o, rfl, hg, s0⟩ := HC.out k nm hnm
      obtain ⟨g2, o2, rfl, hg2, s2⟩ := HC2.out k nm hnm
      have s0' : wr.cell? ⟨g, o + k, none⟩ = some (.string nm) := (HB.out.cell (p := ⟨g, _, none⟩) hg).trans s0
      have s2' : wr.cell? ⟨g2, o2 + k, none⟩ = some (.string nm) := (HB.out.cell (p := ⟨g2, _, none⟩) hg2).trans s2
      have k1 : (k : Int) < (ws.length : Int) := by omega
      have dn : (nm.toList == nm.toList) = true := by simp
      clear s0 s2 hnm
      go_wp2_with fail
      go_quiet (fail)
      go_wp2_with fail
      go_roundw
      case rel => exact ⟨k + 1, by omega, by first | rfl | simp, by go_num, Lib.hid (below_drewN HB.out _)⟩
      case measure => simp [intOf]; omega
    · obtain rfl : k = ws.length := by omega
      go_wp2_with fail
      go_ret
      exact ⟨rfl, HB.out⟩
/-- What is read, in three values. -/
def GotM (res : Rd) (v : Value) (i er : Int) (W : World) : Prop := match res with
  | .ok l => i = 0 ∧ er = 0 ∧ FrRead W (fun _ => True) v l
  | .bad er' i' => v = .slice none 0 0 ∧ i = i' ∧ er = (er' : Int)
theorem GotM.same {res : Rd} {v v' : Value} {i er i' er' : Int} {W W' : World} (h : GotM res v i er W) (h' : GotM res v' i' er' W') : i' = i ∧ er' = er := by
  cases res with
  | ok l => exact ⟨h'.1.trans h.1.symm, h'.2.1.trans h.2.1.symm⟩
  | bad e j => exact ⟨h'.2.1.trans h.2.1.symm, h'.2.2.trans h.2.2.symm⟩
theorem GotM.lists {res : Rd} {v v' : Value} {i er i' er' : Int} {W W' : World} (h : GotM res v i er W) (hb : Below W.heap.size W W') (h' : GotM res v' i' er' W') : ∃ l : List Fr, FrRead W' (fun _ => True) v l ∧ FrRead W' (fun _ => True) v' l := by
  cases res with
  | ok l => exact ⟨l, h.2.2.bl hb, h'.2.2⟩
  | bad e j => rw [h.1, h'.1]; exact ⟨[], FrRead.nil _ _ _ _, FrRead.nil _ _ _ _⟩
theorem got_at {res : Rd} {w W : World} {e : Ending} (h : GotEnd res w e W) : Below w.heap.size w W ∧ ∃ v : Value, ∃ i er : Int, e = .returned (.agg #[v, .int .i64 i, .int .i64 er]) ∧ GotM res v i er W := by
  obtain ⟨h1, h2⟩ := h
  refine ⟨h1, ?_⟩
  cases res with
  | ok l => obtain ⟨v, he, hf⟩ := h2; exact ⟨v, 0, 0, he, rfl, rfl, hf⟩
  | bad er' i' => exact ⟨_, i', er', h2, rfl, rfl, rfl⟩
set_option maxRecDepth 100000 in
set_option maxHeartbeats 16000000 in
/-- **FragReads** -/
theorem fragReads_any (ts : List Tok) (ws : List ByteArray) (vt vw : Value) (w : World) (he : Env w) (hr : TokRead w vt ts) (hw : StrRead w vw ws) (hwn : ∀ n c, vw = .slice none n c → c = 0) (hzs : ∀ s ∈ ws, s.size ≤ maxLen) (hzt : ∀ t ∈ ts, t.text.size ≤ maxLen) :
    Calls Tryz.prog 3 #[vt, vw] w fun e W => e = .returned (.bool true) ∧ Below w.heap.size w W := by
  have HE := Lib.hid he
  have HT := Lib.hid hr
  have HW := Lib.hid hw
  have HWN := Lib.hid hwn
  have HZS := Lib.hid hzs
  have HZT := Lib.hid hzt
  obtain ⟨ta, tc, rfl, _⟩ := hr
  obtain ⟨wa, wc, rfl, _⟩ := hw
  clear he hzs hzt hwn
  go_enter Tryz.func3, Tryz.ntmps3
  go_wp2_with fail
  go_at_call 14
  refine (sane02_any _ HE.out).mono ?_
  rintro e W1 ⟨rfl, hb⟩
  have B1 := Lib.hid hb
  clear hb
  go_wp2_with fail
  go_at_call 15
  refine (fragRead_any ts ws _ _ _ (HT.out.bl B1.out) (HW.out.bl B1.out) (HE.out.below B1.out) HZS.out HZT.out).mono ?_
  rintro e W2 hend
  have key : ∃ (va : Value) (i er : Int), e = .returned (.tuple #[va, .int .i64 i, .int .i64 er]) ∧ Below W1.heap.size W1 W2 ∧ GotM (pRead ts ws) va i er W2 := by
    obtain ⟨h1, h2⟩ := hend
    revert h2
    cases pRead ts ws with
    | ok l => intro h2; obtain ⟨v, he, hf⟩ := h2; exact ⟨v, 0, 0, he, h1, rfl, rfl, hf⟩
    | bad er' i' => intro h2; exact ⟨_, i', er', h2, h1, rfl, rfl, rfl⟩
  obtain ⟨va, i, er, rfl, hb2, hm2⟩ := key
  have B2 := Lib.hid (B1.out.trans (hb2.mono B1.out.size))
  have HM2 := Lib.hid hm2
  clear hend hb2 hm2
  go_wp2_with fail
  go_at_call 16
  refine (rRead_any ts ws _ _ _ (HT.out.bl B2.out) (HW.out.bl B2.out) HWN.out HZS.out HZT.out).mono ?_
  rintro e W3 hend
  obtain ⟨hb3, vb, ib, erb, rfl, hm3⟩ := got_at hend
  have B3 := Lib.hid (B2.out.trans (hb3.mono B2.out.size))
  have HM3 := Lib.hid hm3
  obtain ⟨rfl, rfl⟩ := HM2.out.same hm3
  obtain ⟨l, hl⟩ := HM2.out.lists hb3 hm3
  have HL := Lib.hid hl
  clear hend hb3 hm3 hl HM2 HM3
  have hba := (Below.refl W3.heap.size W3).alloc (Nat.le_refl _) (.cells #[vb, .int .i64 ib, .int .i64 erb] 30)
  have HX := Lib.hid (heap_alloc_new W3 (.cells #[vb, .int .i64 ib, .int .i64 erb] 30))
  have HBA := Lib.hid hba
  obtain ⟨ba, bn, bc, hvb⟩ : ∃ a n c, vb = .slice a n c := by obtain ⟨a, c, _, _, h, _⟩ := HL.out.2; exact ⟨a, _, c, h⟩
  subst hvb
  clear hba
  go_wp2_with fail
  go_at_call 18
  refine (words_any _).mono ?_
  rintro e W4 ⟨rfl, hw4⟩
  have hb4 : Below (W3.alloc (.cells #[.slice ba bn bc, .int .i64 ib, .int .i64 erb] 30)).heap.size (W3.alloc (.cells #[.slice ba bn bc, .int .i64 ib, .int .i64 erb] 30)) W4 := by subst hw4; exact (Below.refl _ _).alloc (Nat.le_refl _) _
  have hS4 : StrRead W4 (.slice (some ⟨(W3.alloc (.cells #[.slice ba bn bc, .int .i64 ib, .int .i64 erb] 30)).heap.size, 0, none⟩) 6 6) givenW := by subst hw4; exact strs_new _ givenW (by decide)
  have HB4 := Lib.hid hb4
  have HS4 := Lib.hid hS4
  rw [World.size_alloc] at hS4
  obtain ⟨b9, hb9⟩ : ∃ b9, W3.heap.size = b9 := ⟨_, rfl⟩
  have HX4 := Lib.hid ((hb4.block W3.heap.size (by rw [World.size_alloc]; omega)).trans HX.out)
  have B4 := Lib.hid (B3.out.trans ((HBA.out.mono B3.out.size).trans (hb4.mono (by rw [World.size_alloc]; have := B3.out.size; omega))))
  have HL4 := Lib.hid (show FrRead W4 (fun _ => True) va l ∧ FrRead W4 (fun _ => True) (.slice ba bn bc) l from ⟨(HL.out.1.bl HBA.out).bl hb4, (HL.out.2.bl HBA.out).bl hb4⟩)
  rw [hb9] at HX4 hS4
  have HS4' := Lib.hid hS4
  clear hw4 hb4 hS4 HL HX HB4 HS4
  go_wp2_with fail
  go_at_call 19
  refine (rWords_any _).mono ?_
  rintro e W5 ⟨rfl, hw5⟩
  have hb5 : Below W4.heap.size W4 W5 := by subst hw5; exact (Below.refl _ _).alloc (Nat.le_refl _) _
  have HS5 : Hid (StrRead W5 (.slice (some ⟨W4.heap.size, 0, none⟩) 6 6) givenW) := Lib.hid (by subst hw5; exact strs_new _ givenW (by decide))
  have HS5b := Lib.hid (HS4'.out.bl hb5)
  have l9 : b9 < W4.heap.size := (Array.getElem?_eq_some_iff.1 HX4.out).1
  have HX5 := Lib.hid ((hb5.block b9 l9).trans HX4.out)
  have B5 := Lib.hid (B4.out.trans (hb5.mono B4.out.size))
  have HL5 := Lib.hid (show FrRead W5 (fun _ => True) va l ∧ FrRead W5 (fun _ => True) (.slice ba bn bc) l from ⟨HL4.out.1.bl hb5, HL4.out.2.bl hb5⟩)
  have l95 : b9 < W5.heap.size := Nat.lt_of_lt_of_le l9 hb5.size
  clear hw5 hb5 HL4 HX4 HS4' l9
  go_wp2_with fail
  go_at_call 17
  refine (rSame_any _ _ givenW _ HS5b.out HS5.out).mono ?_
  rintro e W6 ⟨rfl, hb6⟩
  have hX6 := (hb6.block b9 l95).trans HX5.out
  obtain ⟨z0, z1, z2⟩ := got_cells hX6
  have B6 := Lib.hid (B5.out.trans (hb6.mono B5.out.size))
  have HL6 := Lib.hid (show FrRead W6 (fun _ => True) va l ∧ FrRead W6 (fun _ => True) (.slice ba bn bc) l from ⟨HL5.out.1.bl hb6, HL5.out.2.bl hb6⟩)
  have e1 : (ib == ib) = true := by simp
  have e2 : (erb == erb) = true := by simp
  clear hb6 hX6
  go_wp2_with fail
  go_at_call 20
  refine (alikeS_any (fun _ => True) (fun _ => True) (fsz l + 1) l _ _ _ (Nat.lt_succ_self _) HL6.out.1 HL6.out.2).mono ?_
  rintro e W7 ⟨rfl, hb7⟩
  have B7 := Lib.hid (B6.out.trans (hb7.mono B6.out.size))
  clear hb7
  go_wp2_with fail
  go_ret
  exact ⟨rfl, B7.out⟩
end Go.Proofs.YtopbmndjnjnmcaaGreatDoor
