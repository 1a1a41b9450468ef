/- Tokens: what Check of the program and of the reference say. -/
import Derived.Test.YtopbmndjnjnmcaaGreatDoorQ4
import Derived.Test.YtopbmndjnjnmcaaGreatDoorT0
import Derived.Lib.QuietBelow
import Derived.Deep.QuietTactic
import Derived.BigQuiet
namespace Go.Proofs.YtopbmndjnjnmcaaGreatDoor
open Go.RowKit Lx Go.Sort

attribute [local go_sem] Oper.semAt_some

theorem next_check {l : Bs} {i kind len : Nat} {op : Bool} (h : qNext l i op = ⟨0, kind, len⟩) (hk : kind < 7) : qCheck l i kind len = 0 := by
  unfold qNext at h
  split at h
  · rename_i hc; injection h with h1 _ _; exact absurd h1 hc
  · split at h
    · injection h with _ h2 _; omega
    · split at h
      · injection h with _ h2 _; omega
      · split at h
        · rename_i hc; injection h with h1 _ _; exact absurd h1 hc
        · rename_i hc
          injection h with _ h2 h3
          rw [← h2, ← h3]
          simpa using hc
/-- **An integer's text.** -/
theorem kind_canon (l : Bs) : (qKind l = 2) ↔ qCanon l = true := by
  constructor
  · intro h
    have hb := qKind_small l (by omega)
    have h0 : 0 < l.length := by
      rcases Nat.eq_zero_or_pos l.length with h0 | h0
      · rw [kind_none h0] at h; cases h
      · exact h0
    obtain ⟨er, kind, len, hn⟩ : ∃ er kind len, qNext l 0 false = ⟨er, kind, len⟩ := ⟨_, _, _, rfl⟩
    rw [kind_next h0 hb hn] at h
    by_cases her : er = 0
    · subst her
      rw [if_neg (by simp)] at h
      by_cases hc : kind < 7 ∧ len = l.length
      · rw [if_pos hc] at h
        subst h
        have hq := next_check hn (by omega)
        rw [hc.2] at hq
        cases hcan : qCanon ((l.drop 0).take l.length)
        · rw [qCheck_11 l 0 2 l.length (by rw [hcan]; simp)] at hq; cases hq
        · rw [List.drop_zero, List.take_length] at hcan; exact hcan
      · rw [if_neg hc] at h; cases h
    · rw [if_pos her] at h; cases h
  · intro h
    unfold qCanon at h
    split at h
    · rename_i n hn
      have hb := atoi_bounds l n hn
      rw [← eq_of_beq h]
      exact qKind_itoa n hb.1 hb.2
    · cases h


theorem kind_len {l : Bs} (h : qKind l ≠ 0) : l.length ≤ 40 := by
  have hb := qKind_small l h
  have h0 : 0 < l.length := by
    rcases Nat.eq_zero_or_pos l.length with h0 | h0
    · exact absurd (kind_none h0) h
    · exact h0
  obtain ⟨er, kind, len, hn⟩ : ∃ er kind len, qNext l 0 false = ⟨er, kind, len⟩ := ⟨_, _, _, rfl⟩
  rw [kind_next h0 hb hn] at h
  by_cases her : er = 0
  · subst her
    rw [if_neg (by simp)] at h
    by_cases hc : kind < 7 ∧ len = l.length
    · have hq := next_check hn hc.1
      rw [hc.2] at hq
      by_cases h40 : 40 < l.length
      · exfalso
        unfold qCheck at hq
        rw [if_pos h40] at hq
        split at hq
        · cases hq
        · split at hq <;> cases hq
      · omega
    · rw [if_neg hc] at h; exact absurd rfl h
  · rw [if_pos her] at h; exact absurd rfl h

theorem tokEr_ok {t : Tok} (h : tokOk t = true) : tokEr t = 0 := if_pos h
theorem tokEr_no {t : Tok} (h : tokOk t = false) : tokEr t = 14 := if_neg (by rw [h]; simp)

set_option maxRecDepth 100000 in
set_option maxHeartbeats 8000000 in
/-- **Check** -/
theorem check_tok (t : Tok) (hm : t.text.size ≤ maxLen) (w : World) (he : Env w) :
    Calls Tryz.prog 85 #[TokV t] w fun e W => e = .returned (.int .i64 (tokEr t : Nat)) ∧ Below w.heap.size w W := by
  have hb0 := (Below.refl w.heap.size w).alloc (Nat.le_refl _) (.cells (tokC t) 50)
  have HB0 := Lib.hid hb0
  have HE0 := Lib.hid (he.below hb0)
  obtain ⟨K, hK⟩ : ∃ K, qKind t.text.data.toList = K := ⟨_, rfl⟩
  obtain ⟨V, hV⟩ : ∃ V, qValue K t.text.data.toList = V := ⟨_, rfl⟩
  have hok : tokOk t = (!((K : Int) == 0) && !((K : Int) != t.kind) && !(t.num != V) && !(decide (t.at_ < 0)) && !(decide (t.mark < 0))) := by
    unfold tokOk; rw [hK, hV]
  have hvs : K = 2 → t.text.size ≤ 20000 := fun h => by
    have := kind_len (l := t.text.data.toList) (by rw [hK, h]; simp)
    simp only [Array.length_toList, ByteArray.size_data] at this; omega
  have HOK := Lib.hid hok
  have HK := Lib.hid hK
  have HV := Lib.hid hV
  have HM := Lib.hid hm
  have HVS := Lib.hid hvs
  clear hb0 he hm hok hK hV hvs
  obtain ⟨E, hE⟩ : ∃ E, tokEr t = E := ⟨_, rfl⟩
  rw [hE]
  have HE := Lib.hid hE
  clear hE
  obtain ⟨tk, tn, tx, ta, tm⟩ := t
  simp only at HK HV HM HVS HOK
  unfold TokV tokC at *
  simp only at *
  go_enter Tryz.func85, Tryz.ntmps85
  go_wp2_with fail
  refine (kind_any tx HM.out _ HE0.out).mono ?_
  rintro e w1 ⟨rfl, hb1⟩
  rw [HK.out]
  have hC1 := (hb1.block w.heap.size (by rw [World.size_alloc]; omega)).trans (heap_alloc_new w (.cells #[.int .i64 tk, .int .i64 tn, .string tx, .int .i64 ta, .int .i64 tm] 50))
  obtain ⟨c0, c1, c2, c3, c4⟩ := tok_cells (t := ⟨tk, tn, tx, ta, tm⟩) hC1
  simp only at c0 c1 c2 c3 c4
  have HB1 := Lib.hid (bt HB0.out hb1)
  have HE1 := Lib.hid (HE0.out.below hb1)
  have hgl : w.heap.size < w1.heap.size := (Array.getElem?_eq_some_iff.1 hC1).1
  clear hb1 hC1 HB0 HE0
  have hno : tokOk ⟨tk, tn, tx, ta, tm⟩ = false → E = 14 := fun h => by rw [← HE.out]; exact tokEr_no h
  have hyes : tokOk ⟨tk, tn, tx, ta, tm⟩ = true → E = 0 := fun h => by rw [← HE.out]; exact tokEr_ok h
  have HNO := Lib.hid hno
  have HYES := Lib.hid hyes
  clear hno hyes HE
  cases e1 : ((K : Int) == 0)
  · cases e2 : ((K : Int) != tk)
    · have hvw : ∀ W, Env W → Calls Tryz.prog 111 #[.int .i64 K, .string tx] W fun e w' => e = .returned (.int .i64 V) ∧ Below W.heap.size W w' := fun W hE => by
        have h := value_any K tx HVS.out W hE
        rw [HV.out] at h; exact h
      have cV : ∀ d os, Calls Tryz.prog 111 #[.int .i64 K, .string tx] (grow (redrawn w1 d) os) fun e w'' => e = .returned (.int .i64 V) ∧ ∃ p : Regrown, w'' = grow (redrawn w1 p.d) p.os := fun d os => Calls.regrown_of (hvw _ (HE1.out.below (below_regrown w1 d os)))
      have k0 := cell_regrown c0
      have k1 := cell_regrown c1
      have k2 := cell_regrown c2
      have k3 := cell_regrown c3
      have k4 := cell_regrown c4
      clear hvw
      cases e3 : (tn != V)
      · cases e4 : decide (ta < 0)
        · cases e5 : decide (tm < 0)
          · have hE := HYES.out (by rw [HOK.out, e1, e2, e3, e4, e5]; rfl)
            subst hE
            go_wp2_with fail
            refine wp_region_quiet_below (by kernel_rfl) (by kernel_rfl) ?_
            repeat (quiet_step (exact cV _ _))
            refine wpQuiet_nil ?_
            intro _ hw'
            obtain ⟨⟨dq, osq⟩, hw''⟩ := hw'
            subst hw''
            go_wp2_with fail
            go_ret
            exact ⟨rfl, bt HB1.out (below_regrown _ _ _)⟩
          · have hE := HNO.out (by rw [HOK.out, e1, e2, e3, e4, e5]; rfl)
            subst hE
            go_wp2_with fail
            refine wp_region_quiet_below (by kernel_rfl) (by kernel_rfl) ?_
            repeat (quiet_step (exact cV _ _))
            refine wpQuiet_nil ?_
            intro _ hw'
            obtain ⟨⟨dq, osq⟩, hw''⟩ := hw'
            subst hw''
            go_wp2_with fail
            go_ret
            exact ⟨rfl, bt HB1.out (below_regrown _ _ _)⟩
        · have hE := HNO.out (by rw [HOK.out, e1, e2, e3, e4]; rfl)
          subst hE
          go_wp2_with fail
          refine wp_region_quiet_below (by kernel_rfl) (by kernel_rfl) ?_
          repeat (quiet_step (exact cV _ _))
          refine wpQuiet_nil ?_
          intro _ hw'
          obtain ⟨⟨dq, osq⟩, hw''⟩ := hw'
          subst hw''
          go_wp2_with fail
          go_ret
          exact ⟨rfl, bt HB1.out (below_regrown _ _ _)⟩
      · have hE := HNO.out (by rw [HOK.out, e1, e2, e3]; rfl)
        subst hE
        go_wp2_with fail
        refine wp_region_quiet_below (by kernel_rfl) (by kernel_rfl) ?_
        repeat (quiet_step (exact cV _ _))
        refine wpQuiet_nil ?_
        intro _ hw'
        obtain ⟨⟨dq, osq⟩, hw''⟩ := hw'
        subst hw''
        go_wp2_with fail
        go_ret
        exact ⟨rfl, bt HB1.out (below_regrown _ _ _)⟩
    · have hE := HNO.out (by rw [HOK.out, e1, e2]; rfl)
      subst hE
      go_wp2_with fail
      go_big_quiet (fail)
      go_wp2_with fail
      go_ret
      exact ⟨rfl, bt HB1.out (bl _ _)⟩
  · have hE := HNO.out (by rw [HOK.out, e1]; rfl)
    subst hE
    go_wp2_with fail
    go_big_quiet (fail)
    go_wp2_with fail
    go_ret
    exact ⟨rfl, bt HB1.out (bl _ _)⟩
/-- What the reference reckons as the number. -/
def tokN (t : Tok) : Int := if t.kind = 2 then (if qCanon t.text.data.toList = true then qNum t.text.data.toList else 0) else 0
theorem tokOk_ref (t : Tok) : tokOk t = (!(t.kind == 0) && !((qKind t.text.data.toList : Int) != t.kind) && !(t.num != tokN t) && !(decide (t.at_ < 0)) && !(decide (t.mark < 0))) := by
  unfold tokOk
  by_cases hk : (qKind t.text.data.toList : Int) = t.kind
  · have e1 : ((qKind t.text.data.toList : Int) == 0) = (t.kind == 0) := by rw [hk]
    have e2 : qValue (qKind t.text.data.toList) t.text.data.toList = tokN t := by
      unfold qValue tokN
      by_cases h2 : qKind t.text.data.toList = 2
      · rw [if_pos h2, if_pos (by rw [← hk, h2]; rfl), if_pos ((kind_canon _).1 h2)]
      · rw [if_neg h2, if_neg (fun h => h2 (by rw [h] at hk; omega))]
    rw [e1, e2]
  · have e1 : ((qKind t.text.data.toList : Int) != t.kind) = true := by simpa using hk
    rw [e1]; simp

set_option maxRecDepth 100000 in
set_option maxHeartbeats 8000000 in
/-- **Check** of the reference -/
theorem refCheck_tok (t : Tok) (hm : t.text.size ≤ maxLen) (w : World) :
    Calls Tryz.prog 87 #[TokV t] w fun e W => e = .returned (.int .i64 (tokEr t : Nat)) ∧ Below w.heap.size w W := by
  have hb0 := (Below.refl w.heap.size w).alloc (Nat.le_refl _) (.cells (tokC t) 50)
  have HB0 := Lib.hid hb0
  obtain ⟨K, hK⟩ : ∃ K, qKind t.text.data.toList = K := ⟨_, rfl⟩
  obtain ⟨N, hN⟩ : ∃ N, tokN t = N := ⟨_, rfl⟩
  have hok := tokOk_ref t
  rw [hK, hN] at hok
  have HOK := Lib.hid hok
  have HK := Lib.hid hK
  have HN := Lib.hid hN
  have HM := Lib.hid hm
  clear hb0 hm hok hK hN
  obtain ⟨E, hE⟩ : ∃ E, tokEr t = E := ⟨_, rfl⟩
  rw [hE]
  have HE := Lib.hid hE
  clear hE
  have hno : tokOk t = false → E = 14 := fun h => by rw [← HE.out]; exact tokEr_no h
  have hyes : tokOk t = true → E = 0 := fun h => by rw [← HE.out]; exact tokEr_ok h
  have HNO := Lib.hid hno
  have HYES := Lib.hid hyes
  clear hno hyes HE
  obtain ⟨tk, tn, tx, ta, tm⟩ := t
  simp only at HK HM HOK HN
  unfold TokV tokC at *
  simp only at *
  go_enter Tryz.func87, Tryz.ntmps87
  go_upto_if 6 with (fail)
  go_cut [3] from 6 to 12 (fun x wx => x = .int .i64 N ∧ wx.heap[w.heap.size]? = some (.cells #[.int .i64 tk, .int .i64 tn, .string tx, .int .i64 ta, .int .i64 tm] 50 (0, 0)) ∧ Below w.heap.size w wx)
  case first =>
    have hC0 := heap_alloc_new w (.cells #[.int .i64 tk, .int .i64 tn, .string tx, .int .i64 ta, .int .i64 tm] 50)
    have HC0 := Lib.hid hC0
    clear hC0
    by_cases h2 : tk = 2
    · subst h2
      have hn2 : N = if qCanon tx.data.toList = true then qNum tx.data.toList else 0 := by rw [← HN.out]; exact if_pos rfl
      have HN2 := Lib.hid hn2
      clear hn2
      go_wp2_with fail
      refine (refNumber_any tx _).mono ?_
      rintro e w1 ⟨rfl, hb1⟩
      have hC1 := (hb1.block w.heap.size (by rw [World.size_alloc]; omega)).trans HC0.out
      cases hq : qCanon tx.data.toList
      · have hN0 : N = 0 := by rw [HN2.out, hq]; rfl
        subst hN0
        go_wp2_with fail
        go_meet
        exact ⟨rfl, hC1, bt HB0.out hb1⟩
      · have hN0 : qNum tx.data.toList = N := by rw [HN2.out, hq]; rfl
        rw [hN0]
        clear hN0
        go_wp2_with fail
        go_meet
        exact ⟨rfl, hC1, bt HB0.out hb1⟩
    · have d2 : (tk == 2) = false := by simpa using h2
      have hn2 : N = 0 := by rw [← HN.out]; exact if_neg h2
      subst hn2
      rw [d2]
      go_wp2_with fail
      go_meet
      exact ⟨rfl, HC0.out, HB0.out⟩
  case rest =>
    obtain ⟨rfl, hC, hb⟩ := hcut
    obtain ⟨c0, c1, c2, c3, c4⟩ := tok_cells (t := ⟨tk, tn, tx, ta, tm⟩) hC
    simp only at c0 c1 c2 c3 c4
    have HB1 := Lib.hid hb
    clear hb hC HB0
    cases e1 : (tk == 0)
    · have cV : ∀ d os, Calls Tryz.prog 115 #[.string tx] (grow (redrawn wc d) os) fun e w'' => e = .returned (.int .i64 K) ∧ ∃ p : Regrown, w'' = grow (redrawn wc p.d) p.os := fun d os => Calls.regrown_of (by
        have h := refKind_any tx HM.out (grow (redrawn wc d) os)
        rw [HK.out] at h; exact h)
      have k0 := cell_regrown c0
      have k1 := cell_regrown c1
      have k2 := cell_regrown c2
      have k3 := cell_regrown c3
      have k4 := cell_regrown c4
      cases e2 : ((K : Int) != tk)
      · cases e3 : (tn != N)
        · cases e4 : decide (ta < 0)
          · cases e5 : decide (tm < 0)
            · have hE := HYES.out (by rw [HOK.out, e1, e2, e3, e4, e5]; rfl)
              subst hE
              go_wp2_with fail
              refine wp_region_quiet_below (by kernel_rfl) (by kernel_rfl) ?_
              repeat (quiet_step (exact cV _ _))
              refine wpQuiet_nil ?_
              intro _ hw'
              obtain ⟨⟨dq, osq⟩, hw''⟩ := hw'
              subst hw''
              go_wp2_with fail
              go_ret
              exact ⟨rfl, bt HB1.out (below_regrown _ _ _)⟩
            · have hE := HNO.out (by rw [HOK.out, e1, e2, e3, e4, e5]; rfl)
              subst hE
              go_wp2_with fail
              refine wp_region_quiet_below (by kernel_rfl) (by kernel_rfl) ?_
              repeat (quiet_step (exact cV _ _))
              refine wpQuiet_nil ?_
              intro _ hw'
              obtain ⟨⟨dq, osq⟩, hw''⟩ := hw'
              subst hw''
              go_wp2_with fail
              go_ret
              exact ⟨rfl, bt HB1.out (below_regrown _ _ _)⟩
          · have hE := HNO.out (by rw [HOK.out, e1, e2, e3, e4]; rfl)
            subst hE
            go_wp2_with fail
            refine wp_region_quiet_below (by kernel_rfl) (by kernel_rfl) ?_
            repeat (quiet_step (exact cV _ _))
            refine wpQuiet_nil ?_
            intro _ hw'
            obtain ⟨⟨dq, osq⟩, hw''⟩ := hw'
            subst hw''
            go_wp2_with fail
            go_ret
            exact ⟨rfl, bt HB1.out (below_regrown _ _ _)⟩
        · have hE := HNO.out (by rw [HOK.out, e1, e2, e3]; rfl)
          subst hE
          go_wp2_with fail
          refine wp_region_quiet_below (by kernel_rfl) (by kernel_rfl) ?_
          repeat (quiet_step (exact cV _ _))
          refine wpQuiet_nil ?_
          intro _ hw'
          obtain ⟨⟨dq, osq⟩, hw''⟩ := hw'
          subst hw''
          go_wp2_with fail
          go_ret
          exact ⟨rfl, bt HB1.out (below_regrown _ _ _)⟩
      · have hE := HNO.out (by rw [HOK.out, e1, e2]; rfl)
        subst hE
        go_wp2_with fail
        refine wp_region_quiet_below (by kernel_rfl) (by kernel_rfl) ?_
        repeat (quiet_step (exact cV _ _))
        refine wpQuiet_nil ?_
        intro _ hw'
        obtain ⟨⟨dq, osq⟩, hw''⟩ := hw'
        subst hw''
        go_wp2_with fail
        go_ret
        exact ⟨rfl, bt HB1.out (below_regrown _ _ _)⟩
    · have hE := HNO.out (by rw [HOK.out, e1]; rfl)
      subst hE
      go_wp2_with fail
      go_big_quiet (fail)
      go_wp2_with fail
      go_ret
      exact ⟨rfl, bt HB1.out (bl _ _)⟩
end Go.Proofs.YtopbmndjnjnmcaaGreatDoor
