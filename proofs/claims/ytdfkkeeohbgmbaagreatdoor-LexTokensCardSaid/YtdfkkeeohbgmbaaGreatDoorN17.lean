/- Tokens: what Same of the program and of the reference say. -/
import Derived.Test.YtdfkkeeohbgmbaaGreatDoorN15
namespace Go.Proofs.YtdfkkeeohbgmbaaGreatDoor
open Go.RowKit Lx

attribute [local go_sem] Oper.semAt_some

def sameTok (a b : Tok) : Bool := (a.kind == b.kind) && (a.num == b.num) && (a.text.toList == b.text.toList)
def sameL : List Tok → List Tok → Bool
  | [], [] => true
  | a :: r, b :: s => sameTok a b && sameL r s
  | _, _ => false
theorem sameL_len : ∀ (a b : List Tok), a.length ≠ b.length → sameL a b = false
  | [], [], h => absurd rfl h
  | [], _ :: _, _ => rfl
  | _ :: _, [], _ => rfl
  | _ :: r, _ :: s, h => by
    rw [sameL, sameL_len r s (by simpa using h), Bool.and_false]
theorem sameL_at {a b : List Tok} {k : Nat} {x y : Tok} (hx : a[k]? = some x) (hy : b[k]? = some y) : sameL (a.drop k) (b.drop k) = (sameTok x y && sameL (a.drop (k + 1)) (b.drop (k + 1))) := by
  obtain ⟨h1, h1'⟩ := List.getElem?_eq_some_iff.1 hx
  obtain ⟨h2, h2'⟩ := List.getElem?_eq_some_iff.1 hy
  rw [List.drop_eq_getElem_cons h1, List.drop_eq_getElem_cons h2, h1', h2', sameL]

/-- A slice of tokens, to be read. -/
def TokRead (W : World) (v : Value) (ts : List Tok) : Prop :=
  ∃ a c, v = .slice a ts.length c ∧ (ts.length ≤ maxLen ∧ ts.length ≤ c) ∧ ∀ k t, ts[k]? = some t → ∃ g o, a = some ⟨g, o, none⟩ ∧ g < W.heap.size ∧
    W.cell? ⟨g, o + k * 5, none⟩ = some (.int .i64 t.kind) ∧ W.cell? ⟨g, o + k * 5 + 1, none⟩ = some (.int .i64 t.num) ∧ W.cell? ⟨g, o + k * 5 + 2, none⟩ = some (.string t.text) ∧ W.cell? ⟨g, o + k * 5 + 3, none⟩ = some (.int .i64 t.at_) ∧ W.cell? ⟨g, o + k * 5 + 4, none⟩ = some (.int .i64 t.mark)
theorem TokRead.bl {W W' : World} {v : Value} {ts : List Tok} (h : TokRead W v ts) (hb : Below W.heap.size W W') : TokRead W' v ts := by
  obtain ⟨a, c, hv, hm, h⟩ := h
  refine ⟨a, c, hv, hm, fun k t hk => ?_⟩
  obtain ⟨g, o, ha, hg, h0, h1, h2, h3, h4⟩ := h k t hk
  exact ⟨g, o, ha, Nat.lt_of_lt_of_le hg hb.size, (hb.cell (p := ⟨g, _, none⟩) hg).trans h0, (hb.cell (p := ⟨g, _, none⟩) hg).trans h1, (hb.cell (p := ⟨g, _, none⟩) hg).trans h2, (hb.cell (p := ⟨g, _, none⟩) hg).trans h3, (hb.cell (p := ⟨g, _, none⟩) hg).trans h4⟩

set_option maxRecDepth 100000 in
set_option maxHeartbeats 4000000 in
/-- **the function that Same hands on** -/
theorem same1_tok (a b : Tok) (w : World) : Calls Tryz.prog 50 #[TokV a, TokV b] w fun e W => e = .returned (.bool (sameTok a b)) ∧ Below w.heap.size w W := by
  have hb0 := ((Below.refl w.heap.size w).alloc (Nat.le_refl _) (.cells (tokC a) 51)).alloc (by rw [World.size_alloc]; omega) (.cells (tokC b) 51)
  obtain ⟨ak, an, ax, aa, am⟩ := a
  obtain ⟨bk, bn, bx, ba, bm⟩ := b
  have HB0 := Lib.hid hb0
  have hs : sameTok ⟨ak, an, ax, aa, am⟩ ⟨bk, bn, bx, ba, bm⟩ = ((ak == bk) && (an == bn) && (ax.toList == bx.toList)) := rfl
  have HS := Lib.hid hs
  clear hb0 hs
  unfold TokV tokC at *
  simp only at *
  obtain ⟨r, hr⟩ : ∃ r, sameTok ⟨ak, an, ax, aa, am⟩ ⟨bk, bn, bx, ba, bm⟩ = r := ⟨_, rfl⟩
  rw [hr] at HS ⊢
  clear hr
  cases e0 : (ak == bk)
  · have hr : r = false := by rw [HS.out, e0]; rfl
    subst hr
    go_enter Tryz.func50, Tryz.ntmps50
    go_wp2_with fail
    go_ret
    exact ⟨rfl, HB0.out⟩
  · cases e1 : (an == bn)
    · have hr : r = false := by rw [HS.out, e0, e1]; rfl
      subst hr
      go_enter Tryz.func50, Tryz.ntmps50
      go_wp2_with fail
      go_ret
      exact ⟨rfl, HB0.out⟩
    · cases e2 : (ax.toList == bx.toList)
      · have hr : r = false := by rw [HS.out, e0, e1, e2]; rfl
        subst hr
        go_enter Tryz.func50, Tryz.ntmps50
        go_wp2_with fail
        go_ret
        exact ⟨rfl, HB0.out⟩
      · have hr : r = true := by rw [HS.out, e0, e1, e2]; rfl
        subst hr
        go_enter Tryz.func50, Tryz.ntmps50
        go_wp2_with fail
        go_ret
        exact ⟨rfl, HB0.out⟩

set_option maxRecDepth 100000 in
set_option maxHeartbeats 8000000 in
/-- **slices.EqualFunc** of tokens -/
theorem equalFunc_tok (va vb : Value) (ts us : List Tok) (w : World) (ha : TokRead w va ts) (hb : TokRead w vb us) :
    Calls Tryz.prog 49 #[va, vb, .func (.func 50) #[] #[]] w fun e W => e = .returned (.bool (sameL ts us)) ∧ Below w.heap.size w W := by
  obtain ⟨aa, ca, rfl, hma, hra⟩ := ha
  obtain ⟨ab, cb, rfl, hmb, hrb⟩ := hb
  have HA := Lib.hid hra
  have HB := Lib.hid hrb
  clear hra hrb
  unfold maxLen at hma hmb
  obtain ⟨r, hr⟩ : ∃ r, sameL ts us = r := ⟨_, rfl⟩
  rw [hr]
  have HR := Lib.hid hr
  clear hr
  cases hl : ((ts.length : Int) != (us.length : Int))
  · have hl' : ts.length = us.length := by simp at hl; omega
    obtain ⟨n, hn⟩ : ∃ n, us.length = n := ⟨_, rfl⟩
    rw [hn] at hl' hmb hl ⊢
    rw [hl'] at hma hl ⊢
    have HL1 := Lib.hid hl'
    have HL2 := Lib.hid hn
    clear hl hl' hn
    go_enter Tryz.func49, Tryz.ntmps49
    go_wp2_with fail
    go_loopw [7, 8, 9, 17] (fun _ _ _ x wr => ∃ k : Nat, k ≤ n ∧ x = .int .i64 k ∧ Hid (r = sameL (ts.drop k) (us.drop k)) ∧ Below w.heap.size w wr) (fun _ _ _ x _ => n - (intOf x).toNat)
    case atStart => exact ⟨0, by omega, rfl, Lib.hid HR.out.symm, Below.refl _ _⟩
    case round =>
      obtain ⟨k, hk, rfl, HT, hbw⟩ := hrel
      by_cases hlt : k < n
      · obtain ⟨p, hp⟩ : ∃ p, ts[k]? = some p := ⟨_, List.getElem?_eq_getElem (by have := HL1.out; omega)⟩
        obtain ⟨q, hq⟩ : ∃ q, us[k]? = some q := ⟨_, List.getElem?_eq_getElem (by have := HL2.out; omega)⟩
        have hstep := sameL_at hp hq
        rw [← HT.out] at hstep
        obtain ⟨ga, oa, rfl, hga, a0, a1, a2, a3, a4⟩ := HA.out k p hp
        obtain ⟨gb, ob, rfl, hgb, b0, b1, b2, b3, b4⟩ := HB.out k q hq
        have HS := Lib.hid hstep
        have HC := Lib.hid (fun W => same1_tok p q W)
        obtain ⟨pk, pn, px, pa, pm⟩ := p
        obtain ⟨qk, qn, qx, qa, qm⟩ := q
        unfold TokV tokC at HC
        simp only at *
        obtain ⟨sm, hsm⟩ : ∃ b, sameTok ⟨pk, pn, px, pa, pm⟩ ⟨qk, qn, qx, qa, qm⟩ = b := ⟨_, rfl⟩
        rw [hsm] at HS HC
        have a0 := (hbw.cell (p := ⟨ga, _, none⟩) hga).trans a0
        have a1 := (hbw.cell (p := ⟨ga, _, none⟩) hga).trans a1
        have a2 := (hbw.cell (p := ⟨ga, _, none⟩) hga).trans a2
        have a3 := (hbw.cell (p := ⟨ga, _, none⟩) hga).trans a3
        have a4 := (hbw.cell (p := ⟨ga, _, none⟩) hga).trans a4
        have HA4 := Lib.hid ((Below.refl wr.heap.size wr).alloc (Nat.le_refl _) (.cells #[.int .i64 pk, .int .i64 pn, .string px, .int .i64 pa, .int .i64 pm] 51))
        have hgb' : gb < wr.heap.size := Nat.lt_of_lt_of_le hgb hbw.size
        have b0 := (HA4.out.cell (p := ⟨gb, _, none⟩) hgb').trans ((hbw.cell (p := ⟨gb, _, none⟩) hgb).trans b0)
        have b1 := (HA4.out.cell (p := ⟨gb, _, none⟩) hgb').trans ((hbw.cell (p := ⟨gb, _, none⟩) hgb).trans b1)
        have b2 := (HA4.out.cell (p := ⟨gb, _, none⟩) hgb').trans ((hbw.cell (p := ⟨gb, _, none⟩) hgb).trans b2)
        have b3 := (HA4.out.cell (p := ⟨gb, _, none⟩) hgb').trans ((hbw.cell (p := ⟨gb, _, none⟩) hgb).trans b3)
        have b4 := (HA4.out.cell (p := ⟨gb, _, none⟩) hgb').trans ((hbw.cell (p := ⟨gb, _, none⟩) hgb).trans b4)
        have HBW := Lib.hid hbw
        have hk0 : (0 : Int) ≤ (k : Int) := by omega
        have hk1 : (k : Int) < (n : Int) := by omega
        have hd : decide (k < n) = true := by simpa using hlt
        have hd2 : decide ((k : Int) < (n : Int)) = true := decide_eq_true hk1
        clear hp hq hstep hsm hga hgb hgb' hbw
        go_wp2_with fail
        refine (HC.out _).mono ?_
        rintro e w2 ⟨rfl, hb2⟩
        have hb3 := (HBW.out.alloc HBW.out.size (.cells #[.int .i64 pk, .int .i64 pn, .string px, .int .i64 pa, .int .i64 pm] 51)).alloc (by rw [World.size_alloc]; have := HBW.out.size; omega) (.cells #[.int .i64 qk, .int .i64 qn, .string qx, .int .i64 qa, .int .i64 qm] 51)
        have HB4 := Lib.hid (hb3.trans (hb2.mono hb3.size))
        clear hb2 hb3 a0 a1 a2 a3 a4 b0 b1 b2 b3 b4
        cases sm
        · have hr : r = false := by rw [HS.out]; rfl
          subst hr
          go_wp2_with fail
          go_ret
          exact ⟨rfl, HB4.out⟩
        · have HT2 := Lib.hid (show r = sameL (ts.drop (k + 1)) (us.drop (k + 1)) from by rw [HS.out, Bool.true_and])
          go_wp2_with fail
          go_roundw
          case rel => exact ⟨k + 1, by omega, rfl, HT2, HB4.out⟩
          case measure => simp [intOf] <;> omega
      · have hd : decide (k < n) = false := by simpa using hlt
        have hd2 : decide ((k : Int) < (n : Int)) = false := decide_eq_false (by omega)
        have hr : r = true := by
          rw [HT.out, List.drop_eq_nil_of_le (by have := HL1.out; omega), List.drop_eq_nil_of_le (by have := HL2.out; omega)]; rfl
        subst hr
        go_wp2_with fail
        go_ret
        exact ⟨rfl, hbw⟩
  · have hr : r = false := by rw [← HR.out]; exact sameL_len ts us (by simp at hl; omega)
    subst hr
    go_enter Tryz.func49, Tryz.ntmps49
    go_wp2_with fail
    go_ret
    exact ⟨rfl, Below.refl _ _⟩

set_option maxRecDepth 100000 in
/-- **Same** -/
theorem same_tok (va vb : Value) (ts us : List Tok) (w : World) (ha : TokRead w va ts) (hb : TokRead w vb us) :
    Calls Tryz.prog 33 #[va, vb] w fun e W => e = .returned (.bool (sameL ts us)) ∧ Below w.heap.size w W := by
  have HC := Lib.hid (equalFunc_tok va vb ts us w ha hb)
  clear ha hb
  go_enter Tryz.func33, Tryz.ntmps33
  go_wp2_with fail
  refine HC.out.mono ?_
  rintro e W ⟨rfl, hb⟩
  go_wp2_with fail
  go_ret
  exact ⟨rfl, hb⟩

set_option maxRecDepth 100000 in
set_option maxHeartbeats 8000000 in
/-- **Same** of the reference -/
theorem refSame_tok (va vb : Value) (ts us : List Tok) (w : World) (ha : TokRead w va ts) (hb : TokRead w vb us) :
    Calls Tryz.prog 34 #[va, vb] w fun e W => e = .returned (.bool (sameL ts us)) ∧ Below w.heap.size w W := by
  obtain ⟨aa, ca, rfl, hma, hra⟩ := ha
  obtain ⟨ab, cb, rfl, hmb, hrb⟩ := hb
  have HA := Lib.hid hra
  have HB := Lib.hid hrb
  clear hra hrb
  unfold maxLen at hma hmb
  obtain ⟨r, hr⟩ : ∃ r, sameL ts us = r := ⟨_, rfl⟩
  rw [hr]
  have HR := Lib.hid hr
  clear hr
  cases hl : ((ts.length : Int) == (us.length : Int))
  · have hr : r = false := by rw [← HR.out]; exact sameL_len ts us (by simp at hl; omega)
    subst hr
    go_enter Tryz.func34, Tryz.ntmps34
    go_wp2_with fail
    go_loopw [5, 6] (fun o x wr => o = .bool false ∧ x = .int .i64 0 ∧ wr = w) (fun _ _ _ => 0)
    case atStart => exact ⟨rfl, rfl, rfl⟩
    case round =>
      obtain ⟨rfl, rfl, rfl⟩ := hrel
      go_wp2_with fail
      go_ret
      exact ⟨rfl, Below.refl _ _⟩
  · have hl' : ts.length = us.length := by simp at hl; omega
    obtain ⟨n, hn⟩ : ∃ n, us.length = n := ⟨_, rfl⟩
    rw [hn] at hl' hmb hl ⊢
    rw [hl'] at hma hl ⊢
    have HL1 := Lib.hid hl'
    have HL2 := Lib.hid hn
    clear hl hl' hn
    go_enter Tryz.func34, Tryz.ntmps34
    go_wp2_with fail
    go_loopw [5, 6] (fun o x wr => ∃ (k : Nat) (b : Bool), k ≤ n ∧ o = .bool b ∧ x = .int .i64 k ∧ Hid (r = (b && sameL (ts.drop k) (us.drop k))) ∧ Below w.heap.size w wr) (fun _ x _ => n - (intOf x).toNat)
    case atStart => exact ⟨0, true, by omega, by simp, rfl, Lib.hid HR.out.symm, Below.refl _ _⟩
    case round =>
      obtain ⟨k, b, hk, rfl, rfl, HT, hbw⟩ := hrel
      cases b
      · have hr : r = false := HT.out
        subst hr
        go_wp2_with fail
        go_ret
        exact ⟨rfl, hbw⟩
      · by_cases hlt : k < n
        · obtain ⟨p, hp⟩ : ∃ p, ts[k]? = some p := ⟨_, List.getElem?_eq_getElem (by have := HL1.out; omega)⟩
          obtain ⟨q, hq⟩ : ∃ q, us[k]? = some q := ⟨_, List.getElem?_eq_getElem (by have := HL2.out; omega)⟩
          have hstep := sameL_at hp hq
          have hst : r = (sameTok p q && sameL (ts.drop (k + 1)) (us.drop (k + 1))) := by rw [HT.out, Bool.true_and, hstep]
          obtain ⟨ga, oa, rfl, hga, a0, a1, a2, _, _⟩ := HA.out k p hp
          obtain ⟨gb, ob, rfl, hgb, b0, b1, b2, _, _⟩ := HB.out k q hq
          have hsm : sameTok p q = ((p.kind == q.kind) && (p.num == q.num) && (p.text.toList == q.text.toList)) := rfl
          rw [hsm] at hst
          have HS := Lib.hid hst
          obtain ⟨pk, pn, px, pa, pm⟩ := p
          obtain ⟨qk, qn, qx, qa, qm⟩ := q
          simp only at *
          have a0 := (hbw.cell (p := ⟨ga, _, none⟩) hga).trans a0
          have a1 := (hbw.cell (p := ⟨ga, _, none⟩) hga).trans a1
          have a2 := (hbw.cell (p := ⟨ga, _, none⟩) hga).trans a2
          have b0 := (hbw.cell (p := ⟨gb, _, none⟩) hgb).trans b0
          have b1 := (hbw.cell (p := ⟨gb, _, none⟩) hgb).trans b1
          have b2 := (hbw.cell (p := ⟨gb, _, none⟩) hgb).trans b2
          have HBW := Lib.hid hbw
          have hk0 : (0 : Int) ≤ (k : Int) := by omega
          have hk1 : (k : Int) < (n : Int) := by omega
          have hd : decide (k < n) = true := by simpa using hlt
          have hd2 : decide ((k : Int) < (n : Int)) = true := decide_eq_true hk1
          clear hp hq hstep hst hsm hga hgb hbw
          cases e0 : (pk == qk)
          · have HT2 := Lib.hid (show r = (false && sameL (ts.drop (k + 1)) (us.drop (k + 1))) from by rw [HS.out, e0]; rfl)
            go_wp2_with fail
            go_big_quiet (fail)
            go_wp2_with fail
            go_roundw
            case rel => exact ⟨k + 1, false, by omega, rfl, rfl, HT2, below_drewN HBW.out _⟩
            case measure => simp [intOf] <;> omega
          · cases e1 : (pn == qn)
            · have HT2 := Lib.hid (show r = (false && sameL (ts.drop (k + 1)) (us.drop (k + 1))) from by rw [HS.out, e0, e1]; rfl)
              go_wp2_with fail
              go_big_quiet (fail)
              go_wp2_with fail
              go_roundw
              case rel => exact ⟨k + 1, false, by omega, rfl, rfl, HT2, below_drewN HBW.out _⟩
              case measure => simp [intOf] <;> omega
            · cases e2 : (px.toList == qx.toList)
              · have HT2 := Lib.hid (show r = (false && sameL (ts.drop (k + 1)) (us.drop (k + 1))) from by rw [HS.out, e0, e1, e2]; rfl)
                go_wp2_with fail
                go_big_quiet (fail)
                go_wp2_with fail
                go_roundw
                case rel => exact ⟨k + 1, false, by omega, rfl, rfl, HT2, below_drewN HBW.out _⟩
                case measure => simp [intOf] <;> omega
              · have HT2 := Lib.hid (show r = (true && sameL (ts.drop (k + 1)) (us.drop (k + 1))) from by rw [HS.out, e0, e1, e2]; rfl)
                go_wp2_with fail
                go_big_quiet (fail)
                go_wp2_with fail
                go_roundw
                case rel => exact ⟨k + 1, true, by omega, rfl, rfl, HT2, below_drewN HBW.out _⟩
                case measure => simp [intOf] <;> omega
        · have hd : decide (k < n) = false := by simpa using hlt
          have hd2 : decide ((k : Int) < (n : Int)) = false := decide_eq_false (by omega)
          have hr : r = true := by
            rw [HT.out, List.drop_eq_nil_of_le (by have := HL1.out; omega), List.drop_eq_nil_of_le (by have := HL2.out; omega)]; rfl
          subst hr
          go_wp2_with fail
          go_ret
          exact ⟨rfl, hbw⟩
end Go.Proofs.YtdfkkeeohbgmbaaGreatDoor
