/- Package fragment: the walk of FragMarks. -/
import Derived.Test.YtopbmndjnjnmcaaGreatDoorG9
import Derived.Test.YtopbmndjnjnmcaaGreatDoorMD
namespace Go.Proofs.YtopbmndjnjnmcaaGreatDoor
open Go.RowKit Lx

attribute [local go_sem] Oper.semAt_some

def rm (mk : Int) (k : Nat) (t : Tok) : Tok := if 0 ≤ t.at_ ∧ 0 ≤ t.mark then ⟨t.kind, t.num, t.text, k, mk⟩ else t
theorem rm_nz {mk : Int} (h : 0 ≤ mk) (k : Nat) (t : Tok) : nz (rm mk k t) = nz t := by
  unfold rm
  split
  · rename_i hc
    unfold nz
    rw [if_pos hc]
    exact if_pos ⟨Int.natCast_nonneg k, h⟩
  · rfl
theorem rm_text (mk : Int) (k : Nat) (t : Tok) : (rm mk k t).text = t.text := by unfold rm; split <;> rfl
def rms (mk : Int) : Nat → List Tok → List Tok
  | _, [] => []
  | k, t :: r => rm mk k t :: rms mk (k + 1) r
theorem rms_len (mk : Int) : ∀ (l : List Tok) (k : Nat), (rms mk k l).length = l.length
  | [], _ => rfl
  | t :: r, k => by simp only [rms, List.length_cons, rms_len mk r]
theorem rms_nz {mk : Int} (h : 0 ≤ mk) : ∀ (l : List Tok) (k : Nat), (rms mk k l).map nz = l.map nz
  | [], _ => rfl
  | t :: r, k => by simp only [rms, List.map_cons, rm_nz h, rms_nz h r]
theorem rms_text {mk : Int} : ∀ (l : List Tok) (k : Nat), (∀ t ∈ l, t.text.size ≤ maxLen) → ∀ t ∈ rms mk k l, t.text.size ≤ maxLen
  | [], _, _, t, ht => by cases ht
  | q :: r, k, h, t, ht => by
    rcases List.mem_cons.1 ht with rfl | ht
    · rw [rm_text]; exact h q List.mem_cons_self
    · exact rms_text r (k + 1) (fun x hx => h x (List.mem_cons_of_mem _ hx)) t ht
theorem rms_take {mk : Int} : ∀ (l : List Tok) (k j : Nat) (t : Tok), l[j]? = some t → (rms mk k l).take (j + 1) = (rms mk k l).take j ++ [rm mk (k + j) t]
  | [], k, j, t, h => by cases h
  | q :: r, k, 0, t, h => by simp at h; subst h; simp [rms]
  | q :: r, k, j + 1, t, h => by
    have := rms_take (mk := mk) r (k + 1) j t (by simpa using h)
    simp only [rms, List.take_succ_cons, List.cons_append]
    rw [this, show k + 1 + j = k + (j + 1) by omega]

theorem own_bl {w w' : World} {base : Nat} {e : TypeId} {size : Nat} {v : Value} {n : Nat} {xs : List Value} (h : w.ownsRow base e size v n xs) (hb : Below w.heap.size w w') : w'.ownsRow base e size v n xs := by
  have hg : w.grownBy w' none := ⟨hb.os, hb.tape, hb.output, hb.size, fun k hk _ => hb.block k hk⟩
  refine h.kept hg ?_
  cases v.ownBlock with
  | none => exact .inl rfl
  | some g => exact .inr (fun e => by cases e)
theorem own_base {w : World} {base : Nat} {e : TypeId} {size : Nat} {v : Value} {n : Nat} {xs : List Value} (h : w.ownsRow base e size v n xs) {r : Nat} (hr : v.ownBlock = some r) : base ≤ r := by
  rcases h.2 with ⟨rfl, _⟩ | ⟨g, cap, cur, rfl, hb, _⟩
  · cases hr
  · obtain rfl : g = r := Option.some.inj hr
    exact hb
theorem own_len {w : World} {base : Nat} {e : TypeId} {size : Nat} {a : Option Addr} {m c n : Nat} {xs : List Value} (h : w.ownsRow base e size (.slice a m c) n xs) : m = n := by
  rcases h.2 with ⟨h, h0⟩ | ⟨g, cap, cur, h, _⟩
  · cases h; exact h0.symm
  · cases h; rfl
theorem rdz_ok {ts ms : List Tok} {ws : List ByteArray} {l : List Fr} (hz : ms.map nz = ts.map nz) (h : pRead ts ws = .ok l) : ∃ l2, pRead ms ws = .ok l2 ∧ frzs l = frzs l2 := by
  have e := pRead_nz ms ws
  rw [hz, pRead_nz, h] at e
  cases hm : pRead ms ws with
  | ok l2 => rw [hm] at e; exact ⟨l2, rfl, by injection e⟩
  | bad er i => rw [hm] at e; cases e
theorem rdz_bad {ts ms : List Tok} {ws : List ByteArray} {er : Nat} {i : Int} (hz : ms.map nz = ts.map nz) (h : pRead ts ws = .bad er i) : pRead ms ws = .bad er i := by
  have e := pRead_nz ms ws
  rw [hz, pRead_nz, h] at e
  cases hm : pRead ms ws with
  | ok l2 => rw [hm] at e; cases e
  | bad er2 i2 => rw [hm] at e; injection e with h1 h2; rw [h1, h2]
theorem nil_read (w : World) : FrRead w (fun _ => True) (.slice none 0 0) [] := ⟨none, 0, 0, 0, rfl, ⟨Nat.zero_le _, Nat.le_refl _⟩, fun h => absurd rfl h, .nil _ _⟩

set_option maxRecDepth 100000 in
set_option maxHeartbeats 8000000 in
/-- **FragMarks** -/
theorem fragMarks_any (ts : List Tok) (ws : List ByteArray) (mk : Int) (vt vw : Value) (w : World) (he : Env w) (hr : TokRead w vt ts) (hw : StrRead w vw ws) (hk0 : 0 ≤ mk) (hk1 : mk ≤ 65535) (hzs : ∀ s ∈ ws, s.size ≤ maxLen) (hzt : ∀ t ∈ ts, t.text.size ≤ maxLen) (htb : ts.length * 48 ≤ 140737488351232) :
    Calls Tryz.prog 12 #[vt, vw, .int .u16 mk] w fun e W => e = .returned (.bool true) ∧ Below w.heap.size w W := by
  have HE := Lib.hid he
  have HT := Lib.hid hr
  have HW := Lib.hid hw
  have HZS := Lib.hid hzs
  have HZT := Lib.hid hzt
  obtain ⟨ta, tc, rfl, ⟨htl, htc⟩, _⟩ := hr
  obtain ⟨wa, wc, rfl, _⟩ := hw
  unfold maxLen at htl
  obtain ⟨i0, hi0, hz0, hz1, hz2⟩ := info_parts info50z
  have hmw : IntKind.i64.wrap mk = mk := IntWalk.i64_in _ (by omega)
  clear he hzs hzt
  go_enter Tryz.func12, Tryz.ntmps12
  go_wp2_with fail
  go_at_call 14
  refine (sane02_any _ HE.out).mono ?_
  rintro e W1 ⟨rfl, hb⟩
  have B1 := Lib.hid hb
  have hw1 := hb.size
  clear hb
  go_wp2_with fail
  go_loopw [8, 9] (fun y x wr => ∃ (k : Nat), k ≤ ts.length ∧ x = .int .i64 k ∧ (∃ a n c, y = .slice a n c) ∧ Hid (wr.ownsRow W1.heap.size 50 5 y k (toksC ((rms mk 0 ts).take k))) ∧ Hid (Below W1.heap.size W1 wr)) (fun _ x _ => ts.length - (intOf x).toNat)
  case atStart => exact ⟨0, by omega, rfl, ⟨none, 0, 0, rfl⟩, Lib.hid ⟨rfl, .inl ⟨rfl, rfl⟩⟩, Lib.hid (Below.refl _ _)⟩
  case round =>
    obtain ⟨k, hk, rfl, ⟨va, vn, vc, rfl⟩, HO, HB⟩ := hrel
    obtain rfl : k = vn := (own_len HO.out).symm
    by_cases hlt : k < ts.length
    · obtain ⟨t, ht⟩ : ∃ t, ts[k]? = some t := ⟨_, List.getElem?_eq_getElem hlt⟩
      have h2 := (HT.out.bl B1.out).bl HB.out
      obtain ⟨a0, c0, hv, _, hcs⟩ := h2
      obtain ⟨tg, tf, hta, hg, c0, c1, c2, c3, c4⟩ := hcs k t ht
      simp only [Value.slice.injEq, true_and] at hv
      obtain ⟨ha, rfl⟩ := hv
      obtain rfl : ta = some ⟨tg, tf, none⟩ := ha.trans hta
      clear hcs hta ha
      have hw2 := HB.out.size
      have HTK := Lib.hid ht
      clear ht
      by_cases hc1 : 0 ≤ t.at_
      · by_cases hc2 : 0 ≤ t.mark
        · have hcc : 0 ≤ t.at_ ∧ 0 ≤ t.mark := ⟨hc1, hc2⟩
          go_upto_region 10 with fail
          have hbl := (Below.refl wr.heap.size wr).alloc (Nat.le_refl _) (.cells #[.int .i64 t.kind, .int .i64 t.num, .string t.text, .int .i64 (k : Int), .int .i64 mk] 50)
          have hrm : rm mk k t = ⟨t.kind, t.num, t.text, (k : Int), mk⟩ := by unfold rm; exact if_pos hcc
          have HOW := Lib.hid (HO.out.alloc (.cells #[.int .i64 t.kind, .int .i64 t.num, .string t.text, .int .i64 (k : Int), .int .i64 mk] 50))
          have HBC := Lib.hid (HB.out.trans (hbl.mono HB.out.size))
          have HRM := Lib.hid hrm
          clear hbl hrm
          go_wp2_with (at_builtin; go_must (refine wpList_append_lies _ rfl (.tmp 41) (.tmp 43) 22 rfl W1.heap.size 50 i0 _ 5 48 Tryz.underlying22 hi0 hz0 hz1 hz2 rfl (by omega) (.slice va k vc) _ _ (by rfl) (HOW.out.alloc _) ⟨wr.heap.size + 1, 0, none⟩ 1 1 [.int .i64 t.kind, .int .i64 t.num, .string t.text, .int .i64 (k : Int), .int .i64 mk] (by rfl) (by rfl) (World.news_of_block (cs := #[.int .i64 t.kind, .int .i64 t.num, .string t.text, .int .i64 (k : Int), .int .i64 mk]) (t := 50) (fr := (0, 0)) (by rw [← World.size_alloc wr]; exact heap_alloc_new _ _)) (by simp [Value.oneCell']) (by omega) (by unfold maxLen; omega) (by omega) (by simp only [World.size_alloc]; omega) (wr.heap.size + 2) (by simp only [World.size_alloc]) ?_); intro gg cap w10 hown1 hgrow hat hgl)
          go_roundw
          case rel => exact ⟨k + 1, by omega, rfl, ⟨_, _, _, rfl⟩, Lib.hid (by rw [rms_take ts 0 k t HTK.out, toksC_app, Nat.zero_add, HRM.out]; exact hown1), Lib.hid ((HBC.out.alloc HBC.out.size _).grown hgrow (by rw [World.size_alloc]; have := HBC.out.size; omega) (fun r hr => own_base (HOW.out) hr))⟩
          case measure => simp [intOf] <;> omega
        · have hcc : ¬ (0 ≤ t.at_ ∧ 0 ≤ t.mark) := fun h => hc2 h.2
          go_upto_region 10 with fail
          have hbl := (Below.refl wr.heap.size wr).alloc (Nat.le_refl _) (.cells #[.int .i64 t.kind, .int .i64 t.num, .string t.text, .int .i64 t.at_, .int .i64 t.mark] 50)
          have hrm : rm mk k t = ⟨t.kind, t.num, t.text, t.at_, t.mark⟩ := by unfold rm; exact if_neg hcc
          have HOW := Lib.hid (HO.out.alloc (.cells #[.int .i64 t.kind, .int .i64 t.num, .string t.text, .int .i64 t.at_, .int .i64 t.mark] 50))
          have HBC := Lib.hid (HB.out.trans (hbl.mono HB.out.size))
          have HRM := Lib.hid hrm
          clear hbl hrm
          go_wp2_with (at_builtin; go_must (refine wpList_append_lies _ rfl (.tmp 41) (.tmp 43) 22 rfl W1.heap.size 50 i0 _ 5 48 Tryz.underlying22 hi0 hz0 hz1 hz2 rfl (by omega) (.slice va k vc) _ _ (by rfl) (HOW.out.alloc _) ⟨wr.heap.size + 1, 0, none⟩ 1 1 [.int .i64 t.kind, .int .i64 t.num, .string t.text, .int .i64 t.at_, .int .i64 t.mark] (by rfl) (by rfl) (World.news_of_block (cs := #[.int .i64 t.kind, .int .i64 t.num, .string t.text, .int .i64 t.at_, .int .i64 t.mark]) (t := 50) (fr := (0, 0)) (by rw [← World.size_alloc wr]; exact heap_alloc_new _ _)) (by simp [Value.oneCell']) (by omega) (by unfold maxLen; omega) (by omega) (by simp only [World.size_alloc]; omega) (wr.heap.size + 2) (by simp only [World.size_alloc]) ?_); intro gg cap w10 hown1 hgrow hat hgl)
          go_roundw
          case rel => exact ⟨k + 1, by omega, rfl, ⟨_, _, _, rfl⟩, Lib.hid (by rw [rms_take ts 0 k t HTK.out, toksC_app, Nat.zero_add, HRM.out]; exact hown1), Lib.hid ((HBC.out.alloc HBC.out.size _).grown hgrow (by rw [World.size_alloc]; have := HBC.out.size; omega) (fun r hr => own_base (HOW.out) hr))⟩
          case measure => simp [intOf] <;> omega
      · have hcc : ¬ (0 ≤ t.at_ ∧ 0 ≤ t.mark) := fun h => hc1 h.1
        go_upto_region 10 with fail
        have hbl := (Below.refl wr.heap.size wr).alloc (Nat.le_refl _) (.cells #[.int .i64 t.kind, .int .i64 t.num, .string t.text, .int .i64 t.at_, .int .i64 t.mark] 50)
        have hrm : rm mk k t = ⟨t.kind, t.num, t.text, t.at_, t.mark⟩ := by unfold rm; exact if_neg hcc
        have HOW := Lib.hid (HO.out.alloc (.cells #[.int .i64 t.kind, .int .i64 t.num, .string t.text, .int .i64 t.at_, .int .i64 t.mark] 50))
        have HBC := Lib.hid (HB.out.trans (hbl.mono HB.out.size))
        have HRM := Lib.hid hrm
        clear hbl hrm
        go_wp2_with (at_builtin; go_must (refine wpList_append_lies _ rfl (.tmp 41) (.tmp 43) 22 rfl W1.heap.size 50 i0 _ 5 48 Tryz.underlying22 hi0 hz0 hz1 hz2 rfl (by omega) (.slice va k vc) _ _ (by rfl) (HOW.out.alloc _) ⟨wr.heap.size + 1, 0, none⟩ 1 1 [.int .i64 t.kind, .int .i64 t.num, .string t.text, .int .i64 t.at_, .int .i64 t.mark] (by rfl) (by rfl) (World.news_of_block (cs := #[.int .i64 t.kind, .int .i64 t.num, .string t.text, .int .i64 t.at_, .int .i64 t.mark]) (t := 50) (fr := (0, 0)) (by rw [← World.size_alloc wr]; exact heap_alloc_new _ _)) (by simp [Value.oneCell']) (by omega) (by unfold maxLen; omega) (by omega) (by simp only [World.size_alloc]; omega) (wr.heap.size + 2) (by simp only [World.size_alloc]) ?_); intro gg cap w10 hown1 hgrow hat hgl)
        go_roundw
        case rel => exact ⟨k + 1, by omega, rfl, ⟨_, _, _, rfl⟩, Lib.hid (by rw [rms_take ts 0 k t HTK.out, toksC_app, Nat.zero_add, HRM.out]; exact hown1), Lib.hid ((HBC.out.alloc HBC.out.size _).grown hgrow (by rw [World.size_alloc]; have := HBC.out.size; omega) (fun r hr => own_base (HOW.out) hr))⟩
        case measure => simp [intOf] <;> omega
    · obtain rfl : k = ts.length := by omega
      have hln : (rms mk 0 ts).length = ts.length := rms_len mk ts 0
      have hown := HO.out
      rw [List.take_of_length_le (by omega)] at hown
      have htm := tok_owns hown hln.symm (by rw [hln]; unfold maxLen; omega)
      have HTM := Lib.hid htm
      have HM := Lib.hid (rms_nz hk0 ts 0)
      have HB2 := Lib.hid (B1.out.trans (HB.out.mono B1.out.size))
      have HZM := Lib.hid (rms_text (mk := mk) ts 0 HZT.out)
      obtain ⟨ms, hms⟩ : ∃ ms, rms mk 0 ts = ms := ⟨_, rfl⟩
      rw [hms] at HTM HM HZM
      clear hown htm hln hms HO
      go_wp2_with fail
      go_at_call 15
      refine (fragRead_any ts ws _ _ _ (HT.out.bl HB2.out) (HW.out.bl HB2.out) (HE.out.below HB2.out) HZS.out HZT.out).mono ?_
      rintro e W3 hend
      cases hpr : pRead ts ws with
      | ok l =>
        obtain ⟨hb3, a3, c3, rfl, hr3⟩ := read_ok hend hpr
        obtain ⟨l2, hp2, hll⟩ := rdz_ok HM.out hpr
        have HR3 := Lib.hid hr3
        have HP2 := Lib.hid hp2
        have HLL := Lib.hid hll
        have H3 := Lib.hid hb3
        have HB3 := Lib.hid (HB2.out.trans (hb3.mono HB2.out.size))
        clear hend hpr hr3 hp2 hll hb3
        go_wp2_with fail
        go_at_call 15
        refine (fragRead_any ms ws _ _ _ (HTM.out.bl H3.out) (HW.out.bl HB3.out) (HE.out.below HB3.out) HZS.out HZM.out).mono ?_
        rintro e W4 hend
        obtain ⟨hb4, a4, c4, rfl, hr4⟩ := read_ok hend HP2.out
        have HR4 := Lib.hid hr4
        have HR5 := Lib.hid (HR3.out.bl hb4)
        have HB4 := Lib.hid (HB3.out.trans (hb4.mono HB3.out.size))
        clear hend hr4 hb4
        go_wp2_with fail
        go_at_call 20
        refine (alike_any (fun _ => True) (fsz l + 1) l l2 _ _ _ (by omega) HLL.out HR5.out HR4.out).mono ?_
        rintro e W5 ⟨rfl, hb5⟩
        have HB5 := Lib.hid (HB4.out.trans (hb5.mono HB4.out.size))
        clear hb5
        go_wp2_with fail
        go_ret
        exact ⟨rfl, HB5.out⟩
      | bad er i =>
        obtain ⟨hb3, rfl⟩ := read_bad hend hpr
        have HP2 := Lib.hid (rdz_bad HM.out hpr)
        have H3 := Lib.hid hb3
        have HB3 := Lib.hid (HB2.out.trans (hb3.mono HB2.out.size))
        clear hend hpr hb3
        go_wp2_with fail
        go_at_call 15
        refine (fragRead_any ms ws _ _ _ (HTM.out.bl H3.out) (HW.out.bl HB3.out) (HE.out.below HB3.out) HZS.out HZM.out).mono ?_
        rintro e W4 hend
        obtain ⟨hb4, rfl⟩ := read_bad hend HP2.out
        have HB4 := Lib.hid (HB3.out.trans (hb4.mono HB3.out.size))
        clear hend hb4
        go_wp2_with fail
        go_at_call 20
        refine (alike_any (fun _ => True) (fsz [] + 1) [] [] _ _ _ (by omega) rfl (nil_read _) (nil_read _)).mono ?_
        rintro e W5 ⟨rfl, hb5⟩
        have HB5 := Lib.hid (HB4.out.trans (hb5.mono HB4.out.size))
        clear hb5
        go_wp2_with fail
        go_ret
        exact ⟨rfl, HB5.out⟩
end Go.Proofs.YtopbmndjnjnmcaaGreatDoor
