/- Package lex: check. -/
import Derived.WalkKit
import Derived.WalkLawsBesides
import Derived.WalkSpells
import Derived.WalkSmall
import Derived.Lib.Hide
import Derived.BigQuiet
import Derived.Deep.QuietTactic
import Derived.Deep.RegionHeld3
import Derived.Test.YtopbmndjnjnmcaaGreatDoorA8
namespace Go.Proofs.YtopbmndjnjnmcaaGreatDoor
open Go.RowKit Lx

theorem in_6 (s : ByteArray) (b i n t : Nat) (op : Bool) (hi : i ≤ s.size) (hn : n ≤ 100) (hs : s.size ≤ 20000) (w : World) (hc : Cut w b s i t op) :
    Calls Tryz.prog 182 #[.pointer (some ⟨b, 0, none⟩), .int .i64 6, .int .i64 n] w fun e w' => e = .returned (.bool (qAt 6 s.data.toList (i + n))) ∧ Below w.heap.size w w' := in_any s b i 6 n (by decide) hi hn hs w hc.1 hc.2.1
theorem in_2 (s : ByteArray) (b i n t : Nat) (op : Bool) (hi : i ≤ s.size) (hn : n ≤ 100) (hs : s.size ≤ 20000) (w : World) (hc : Cut w b s i t op) :
    Calls Tryz.prog 182 #[.pointer (some ⟨b, 0, none⟩), .int .i64 2, .int .i64 n] w fun e w' => e = .returned (.bool (qAt 2 s.data.toList (i + n))) ∧ Below w.heap.size w w' := in_any s b i 2 n (by decide) hi hn hs w hc.1 hc.2.1

theorem rest_r (s : ByteArray) (b i t : Nat) (op : Bool) (hi : i ≤ s.size) (w : World) (hc : Cut w b s i t op) :
    Calls Tryz.prog 158 #[.pointer (some ⟨b, 0, none⟩)] w fun e w' => ∃ (r : ByteArray) (n : Nat), e = .returned (.string r) ∧ w' = w.drewN n ∧ Hid (r.data.toList = s.data.toList.drop i) ∧ Hid (r.size = s.size - i) :=
  (rest_any s b i hi w hc.1 hc.2.1).mono fun _ _ ⟨he, n, hw⟩ => ⟨_, n, he, hw, Lib.hid (ext_list s i), Lib.hid (by simp)⟩

/-- What check refuses; 0: nothing. -/
def qCheck (l : Bs) (i kind n : Nat) : Nat :=
  if (kind == 2 && (qAt 6 l (i + n) || !qCanon ((l.drop i).take n))) = true then 11
  else if (l[i]? == some 35 && (n == 0 || qAt 2 l (i + n))) = true then 12
  else if 40 < n then 2
  else if n = 0 then 10
  else 0

/-- How a call of check or of refuse ends. -/
def refusal (er i : Nat) : Ending := .panicked [{ v := .iface 161 (.agg #[.int .i64 er, .int .i64 i]), recovered := false }]

theorem qCheck_11 (l : Bs) (i kind n : Nat) (h : (kind == 2 && (qAt 6 l (i + n) || !qCanon ((l.drop i).take n))) = true) : qCheck l i kind n = 11 := if_pos h
theorem qCheck_x (l : Bs) (i kind n : Nat) (h : (kind == 2 && (qAt 6 l (i + n) || !qCanon ((l.drop i).take n))) = false) :
    qCheck l i kind n = if (l[i]? == some 35 && (n == 0 || qAt 2 l (i + n))) = true then 12 else if 40 < n then 2 else if n = 0 then 10 else 0 := if_neg (by simp [h])

/-- What the end of check says. -/
def CheckEnd (l : Bs) (i kind n : Nat) (w : World) (e : Ending) (w' : World) : Prop :=
  e = (if qCheck l i kind n = 0 then .returned (.tuple #[]) else refusal (qCheck l i kind n) i) ∧ Below w.heap.size w w'
theorem CheckEnd.bad {l : Bs} {i kind n er : Nat} {w w' : World} (h : qCheck l i kind n = er) (h0 : er ≠ 0) (hb : Below w.heap.size w w') : CheckEnd l i kind n w (refusal er i) w' := by
  subst h; exact ⟨by rw [if_neg h0], hb⟩
theorem CheckEnd.ok {l : Bs} {i kind n : Nat} {w w' : World} (h : qCheck l i kind n = 0) (hb : Below w.heap.size w w') : CheckEnd l i kind n w (.returned (.tuple #[])) w' :=
  ⟨by rw [if_pos h], hb⟩

theorem at_byte (s : ByteArray) (i : Nat) (hi : i < s.size) (c : UInt8) : (s.data.toList[i]? == some c) = ((s[i].toNat : Int) == (c.toNat : Int)) := by
  have h4 : s.data.toList[i]? = some s[i] := by rw [List.getElem?_eq_getElem (by simpa using hi)]; rfl
  rw [h4, Bool.eq_iff_iff, beq_iff_eq, beq_iff_eq, Option.some.injEq]
  exact ⟨fun e => by rw [e], fun e => UInt8.toNat_inj.1 (by omega)⟩

theorem in_2d (s : ByteArray) (b i n t : Nat) (op : Bool) (hi : i ≤ s.size) (hn : n ≤ 100) (hs : s.size ≤ 20000) (w : World) (hc : Cut w b s i t op) :
    Calls Tryz.prog 182 #[.pointer (some ⟨b, 0, none⟩), .int .i64 2, .int .i64 n] w.drew fun e w' => e = .returned (.bool (qAt 2 s.data.toList (i + n))) ∧ Below w.heap.size w w' :=
  (in_2 s b i n t op hi hn hs w.drew hc).mono fun _ _ ⟨he, hb⟩ => ⟨he, bt (bl w 1) hb⟩

/-- The rules behind the first one. -/
def qC (l : Bs) (i n : Nat) : Nat := if (l[i]? == some 35 && (n == 0 || qAt 2 l (i + n))) = true then 12 else if 40 < n then 2 else if n = 0 then 10 else 0
theorem qC_a (l : Bs) (i n : Nat) (h : (l[i]? == some 35) = false) : qC l i n = if 40 < n then 2 else if n = 0 then 10 else 0 := if_neg (by rw [h]; simp)
theorem qC_b (l : Bs) (i n : Nat) (h0 : n ≠ 0) (h : qAt 2 l (i + n) = false) : qC l i n = if 40 < n then 2 else if n = 0 then 10 else 0 := if_neg (by rw [h]; simp [h0])
theorem qC_d (l : Bs) (i n : Nat) (h : (l[i]? == some 35) = true) (h2 : qAt 2 l (i + n) = true) : qC l i n = 12 := if_pos (by rw [h, h2]; simp)
theorem qC_e (l : Bs) (i n : Nat) (h : (l[i]? == some 35) = true) (h2 : n = 0) : qC l i n = 12 := if_pos (by rw [h]; simp [h2])

set_option maxHeartbeats 4000000 in
theorem check_any (s : ByteArray) (b i t n : Nat) (kind : Nat) (op : Bool) (hi : i < s.size) (hn : n ≤ 100) (hin : i + n ≤ s.size) (hs : s.size ≤ 20000) (w : World) (hc : Cut w b s i t op) (he : Env w) :
    Calls Tryz.prog 160 #[.pointer (some ⟨b, 0, none⟩), .int .i64 kind, .int .i64 n] w fun e w' => CheckEnd s.data.toList i kind n w e w' := by
  have HC := Lib.hid hc
  have HE := Lib.hid he
  have hi0 : (0 : Int) ≤ (i : Int) := by omega
  have hi1 : (i : Int) < (s.size : Int) := by omega
  have H35 := Lib.hid (at_byte s i hi 35)
  clear hc he
  go_enter Tryz.func160, Tryz.ntmps160
  cases h2 : ((kind : Int) == 2)
  · have hk2 : (kind == 2) = false := by simp at h2 ⊢; omega
    have hx : Hid (qCheck s.data.toList i kind n = qC s.data.toList i n) := Lib.hid (qCheck_x s.data.toList i kind n (by rw [hk2]; rfl))
    have HCw := HC
    have hbw := Below.refl w.heap.size w
    obtain ⟨c0, c1, _, _⟩ := HCw.out
    have lb := HCw.out.lt
    cases h35 : ((s[i].toNat : Int) == 35)
    · have hx2 := Lib.hid (hx.out.trans (qC_a _ i n (by rw [H35.out]; exact h35)))
      go_wp2_with fail
      go_quiet (fail)
      by_cases h40 : 40 < n
      · have hx3 := Lib.hid (hx2.out.trans (if_pos h40))
        go_wp2_with fail
        refine (refuse_any s b i t op _ _ (HCw.out.below (bl _ _))).mono ?_
        rintro e w' ⟨rfl, rfl⟩
        go_wp2_with fail
        exact ⟨rfl, .bad hx3.out (by decide) (bt hbw (bl _ _))⟩
      · have hx3 := Lib.hid (hx2.out.trans (if_neg h40))
        cases hn0 : ((n : Int) == 0)
        · have hx4 := Lib.hid (hx3.out.trans (if_neg (by simp at hn0; omega)))
          go_wp2_with fail
          go_end0
          exact .ok hx4.out (bt hbw (bl _ _))
        · have hx4 := Lib.hid (hx3.out.trans (if_pos (by simp at hn0; omega)))
          go_wp2_with fail
          refine (refuse_any s b i t op _ _ (HCw.out.below (bl _ _))).mono ?_
          rintro e w' ⟨rfl, rfl⟩
          go_wp2_with fail
          exact ⟨rfl, .bad hx4.out (by decide) (bt hbw (bl _ _))⟩
    · cases hn0 : ((n : Int) == 0)
      · cases hq2 : qAt 2 s.data.toList (i + n)
        · have hx2 := Lib.hid (hx.out.trans (qC_b _ i n (by simp at hn0; omega) hq2))
          go_wp2_with fail
          go_region_held3 (fun w' => w'.cell? ⟨b, 0, none⟩ = some (.string s) ∧ w'.cell? ⟨b, 1, none⟩ = some (.int .i64 i)) (first | go_keep) (first | (go_at_call 182; refine (in_2d s b i n t op (by omega) hn hs _ HCw.out).mono ?_; rintro e w9 ⟨rfl, hb9⟩; obtain ⟨k0, k1, _, _⟩ := HCw.out.below hb9))
          have hb9 := bt hbw hb9
          by_cases h40 : 40 < n
          · have hx3 := Lib.hid (hx2.out.trans (if_pos h40))
            go_wp2_with fail
            refine (refuse_any s b i t op _ _ (HCw.out.below (by assumption))).mono ?_
            rintro e w' ⟨rfl, rfl⟩
            go_wp2_with fail
            exact ⟨rfl, .bad hx3.out (by decide) hb9⟩
          · have hx3 := Lib.hid (hx2.out.trans (if_neg h40))
            have hx4 := Lib.hid (hx3.out.trans (if_neg (by simp at hn0; omega)))
            go_wp2_with fail
            go_end0
            exact .ok hx4.out hb9
        · have hx2 := Lib.hid (hx.out.trans (qC_d _ i n (by rw [H35.out]; exact h35) hq2))
          go_wp2_with fail
          go_region_held3 (fun w' => w'.cell? ⟨b, 0, none⟩ = some (.string s) ∧ w'.cell? ⟨b, 1, none⟩ = some (.int .i64 i)) (first | go_keep) (first | (go_at_call 182; refine (in_2d s b i n t op (by omega) hn hs _ HCw.out).mono ?_; rintro e w9 ⟨rfl, hb9⟩; obtain ⟨k0, k1, _, _⟩ := HCw.out.below hb9))
          go_wp2_with fail
          refine (refuse_any s b i t op _ _ (HCw.out.below (by assumption))).mono ?_
          rintro e w' ⟨rfl, rfl⟩
          go_wp2_with fail
          exact ⟨rfl, .bad hx2.out (by decide) (bt hbw (by assumption))⟩
      · have hx2 := Lib.hid (hx.out.trans (qC_e _ i n (by rw [H35.out]; exact h35) (by simp at hn0; omega)))
        go_wp2_with fail
        go_quiet (fail)
        go_wp2_with fail
        refine (refuse_any s b i t op _ _ (HCw.out.below (bl _ _))).mono ?_
        rintro e w' ⟨rfl, rfl⟩
        go_wp2_with fail
        exact ⟨rfl, .bad hx2.out (by decide) (bt hbw (bl _ _))⟩
  · have h2' : (kind == 2) = true := by simp at h2 ⊢; omega
    cases h6 : qAt 6 s.data.toList (i + n)
    · go_wp2_with fail
      refine (in_6 s b i n t op (by omega) hn hs _ HC.out).mono ?_
      rintro e w1 ⟨rfl, hb1⟩
      have HC1 := Lib.hid (HC.out.below hb1)
      rw [h6]
      go_wp2_with fail
      refine (rest_r s b i t op (by omega) _ HC1.out).mono ?_
      rintro e w' ⟨r, q, rfl, rfl, hR, hz⟩
      have hnr : n ≤ r.size := by rw [hz.out]; omega
      have hE : Hid ((r.extract 0 n).data.toList = (s.data.toList.drop i).take n) := Lib.hid (by rw [Lib.extract_data, hR.out]; simp)
      go_wp2_with fail
      refine (isCanonical_any (r.extract 0 n) (by simp; have := hz.out; omega) _ ((HE.out.below hb1).below (bl _ _))).mono ?_
      rintro e w2 ⟨rfl, hb2⟩
      rw [hE.out]
      have HCw := Lib.hid (HC1.out.below (bt (bl _ _) hb2))
      have hbw := bt hb1 (bt (bl _ _) hb2)
      cases hq : qCanon ((s.data.toList.drop i).take n)
      · have hx := Lib.hid (qCheck_11 s.data.toList i kind n (by rw [h2', hq]; simp))
        go_wp2_with fail
        refine (refuse_any s b i t op _ _ HCw.out).mono ?_
        rintro e w' ⟨rfl, rfl⟩
        go_wp2_with fail
        exact ⟨rfl, .bad hx.out (by decide) hbw⟩
      · have hx : Hid (qCheck s.data.toList i kind n = qC s.data.toList i n) := Lib.hid (qCheck_x s.data.toList i kind n (by rw [h6, hq]; simp))
        obtain ⟨c0, c1, _, _⟩ := HCw.out
        have lb := HCw.out.lt
        cases h35 : ((s[i].toNat : Int) == 35)
        · have hx2 := Lib.hid (hx.out.trans (qC_a _ i n (by rw [H35.out]; exact h35)))
          go_wp2_with fail
          go_quiet (fail)
          by_cases h40 : 40 < n
          · have hx3 := Lib.hid (hx2.out.trans (if_pos h40))
            go_wp2_with fail
            refine (refuse_any s b i t op _ _ (HCw.out.below (bl _ _))).mono ?_
            rintro e w' ⟨rfl, rfl⟩
            go_wp2_with fail
            exact ⟨rfl, .bad hx3.out (by decide) (bt hbw (bl _ _))⟩
          · have hx3 := Lib.hid (hx2.out.trans (if_neg h40))
            cases hn0 : ((n : Int) == 0)
            · have hx4 := Lib.hid (hx3.out.trans (if_neg (by simp at hn0; omega)))
              go_wp2_with fail
              go_end0
              exact .ok hx4.out (bt hbw (bl _ _))
            · have hx4 := Lib.hid (hx3.out.trans (if_pos (by simp at hn0; omega)))
              go_wp2_with fail
              refine (refuse_any s b i t op _ _ (HCw.out.below (bl _ _))).mono ?_
              rintro e w' ⟨rfl, rfl⟩
              go_wp2_with fail
              exact ⟨rfl, .bad hx4.out (by decide) (bt hbw (bl _ _))⟩
        · cases hn0 : ((n : Int) == 0)
          · cases hq2 : qAt 2 s.data.toList (i + n)
            · have hx2 := Lib.hid (hx.out.trans (qC_b _ i n (by simp at hn0; omega) hq2))
              go_wp2_with fail
              go_region_held3 (fun w' => w'.cell? ⟨b, 0, none⟩ = some (.string s) ∧ w'.cell? ⟨b, 1, none⟩ = some (.int .i64 i)) (first | go_keep) (first | (go_at_call 182; refine (in_2d s b i n t op (by omega) hn hs _ HCw.out).mono ?_; rintro e w9 ⟨rfl, hb9⟩; obtain ⟨k0, k1, _, _⟩ := HCw.out.below hb9))
              have hb9 := bt hbw hb9
              by_cases h40 : 40 < n
              · have hx3 := Lib.hid (hx2.out.trans (if_pos h40))
                go_wp2_with fail
                refine (refuse_any s b i t op _ _ (HCw.out.below (by assumption))).mono ?_
                rintro e w' ⟨rfl, rfl⟩
                go_wp2_with fail
                exact ⟨rfl, .bad hx3.out (by decide) hb9⟩
              · have hx3 := Lib.hid (hx2.out.trans (if_neg h40))
                have hx4 := Lib.hid (hx3.out.trans (if_neg (by simp at hn0; omega)))
                go_wp2_with fail
                go_end0
                exact .ok hx4.out hb9
            · have hx2 := Lib.hid (hx.out.trans (qC_d _ i n (by rw [H35.out]; exact h35) hq2))
              go_wp2_with fail
              go_region_held3 (fun w' => w'.cell? ⟨b, 0, none⟩ = some (.string s) ∧ w'.cell? ⟨b, 1, none⟩ = some (.int .i64 i)) (first | go_keep) (first | (go_at_call 182; refine (in_2d s b i n t op (by omega) hn hs _ HCw.out).mono ?_; rintro e w9 ⟨rfl, hb9⟩; obtain ⟨k0, k1, _, _⟩ := HCw.out.below hb9))
              go_wp2_with fail
              refine (refuse_any s b i t op _ _ (HCw.out.below (by assumption))).mono ?_
              rintro e w' ⟨rfl, rfl⟩
              go_wp2_with fail
              exact ⟨rfl, .bad hx2.out (by decide) (bt hbw (by assumption))⟩
          · have hx2 := Lib.hid (hx.out.trans (qC_e _ i n (by rw [H35.out]; exact h35) (by simp at hn0; omega)))
            go_wp2_with fail
            go_quiet (fail)
            go_wp2_with fail
            refine (refuse_any s b i t op _ _ (HCw.out.below (bl _ _))).mono ?_
            rintro e w' ⟨rfl, rfl⟩
            go_wp2_with fail
            exact ⟨rfl, .bad hx2.out (by decide) (bt hbw (bl _ _))⟩
    · have hx := Lib.hid (qCheck_11 s.data.toList i kind n (by rw [h2', h6]; simp))
      go_wp2_with fail
      refine (in_6 s b i n t op (by omega) hn hs _ HC.out).mono ?_
      rintro e w1 ⟨rfl, hb1⟩
      rw [h6]
      go_wp2_with fail
      refine (refuse_any s b i t op _ _ (HC.out.below hb1)).mono ?_
      rintro e w' ⟨rfl, rfl⟩
      go_wp2_with fail
      exact ⟨rfl, .bad hx.out (by decide) hb1⟩
end Go.Proofs.YtopbmndjnjnmcaaGreatDoor
