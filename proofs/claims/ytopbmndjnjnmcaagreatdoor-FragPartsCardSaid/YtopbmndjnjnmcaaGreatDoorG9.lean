/- Package fragment's reference: Alike of two lists that are equal but for offsets and marks. -/
import Derived.Test.YtopbmndjnjnmcaaGreatDoorP5
import Derived.Deep.RegionWith
namespace Go.Proofs.YtopbmndjnjnmcaaGreatDoor
open Go.RowKit Lx Go.Sort

attribute [local go_sem] Oper.semAt_some

theorem frzs_get : ∀ (l : List Fr) (k : Nat), (frzs l)[k]? = (l[k]?).map frz
  | [], k => by simp [frzs]
  | f :: r, 0 => by simp [frzs]
  | f :: r, k + 1 => by simp only [frzs, List.getElem?_cons_succ]; exact frzs_get r k
theorem frz_eq {f g : Fr} (h : frz f = frz g) : g.tok.kind = f.tok.kind ∧ g.tok.num = f.tok.num ∧ g.tok.text = f.tok.text ∧ g.op = f.op ∧ frzs f.kids = frzs g.kids := by
  obtain ⟨t, o, ks⟩ := f
  obtain ⟨t2, o2, ks2⟩ := g
  simp only [frz, Fr.mk.injEq] at h
  obtain ⟨h1, h2, h3⟩ := h
  refine ⟨?_, ?_, ?_, h2.symm, h3⟩
  · exact (nz_kind t2).symm.trans ((congrArg Tok.kind h1).symm.trans (nz_kind t))
  · exact (nz_num t2).symm.trans ((congrArg Tok.num h1).symm.trans (nz_num t))
  · exact (nz_text t2).symm.trans ((congrArg Tok.text h1).symm.trans (nz_text t))

theorem block_lt {w : World} {a : Addr} {v : Value} (h : w.cell? a = some v) : a.block < w.heap.size := by
  rcases Nat.lt_or_ge a.block w.heap.size with h' | h'
  · exact h'
  · unfold World.cell? at h; rw [Array.getElem?_eq_none h'] at h; cases h

set_option maxRecDepth 100000 in
set_option maxHeartbeats 8000000 in
/-- **Alike**, loose, of lists that are equal but for offsets and marks -/
theorem alike_any (S : Nat → Prop) : ∀ (n : Nat) (l l2 : List Fr) (v v2 : Value) (w : World), fsz l < n → frzs l = frzs l2 → FrRead w S v l → FrRead w S v2 l2 →
    Calls Tryz.prog 20 #[v, v2, .bool true] w fun e W => e = .returned (.bool true) ∧ Below w.heap.size w W := by
  intro n
  induction n with
  | zero => intro l l2 v v2 w h; omega
  | succ n ih =>
    intro l l2 v v2 w hn heq hr hr2
    have hlen : l2.length = l.length := by rw [← frzs_len l2, ← heq, frzs_len]
    obtain ⟨va, vc, vg, vo, rfl, ⟨hm1, hm2⟩, ha, hat⟩ := hr
    obtain ⟨ua, uc, ug, uo, rfl, ⟨hu1, hu2⟩, hua, huat⟩ := hr2
    rw [hlen] at hu1 hu2 ⊢
    have HAT := Lib.hid hat
    have HA := Lib.hid ha
    have HUT := Lib.hid huat
    have HU := Lib.hid hua
    have HEQ := Lib.hid heq
    have HL := Lib.hid hlen
    unfold maxLen at hm1 hu1
    clear hat ha huat hua heq hlen
    go_enter Tryz.func20, Tryz.ntmps20
    go_wp2_with fail
    go_loopw [7] (fun x wr => ∃ (k : Nat), k ≤ l.length ∧ x = .int .i64 k ∧ Hid (Below w.heap.size w wr)) (fun x _ => l.length - (intOf x).toNat)
    case atStart => exact ⟨0, by omega, rfl, Lib.hid (Below.refl _ _)⟩
    case round =>
      obtain ⟨k, hk, rfl, HB⟩ := hrel
      by_cases hlt : k < l.length
      · obtain ⟨f, hf⟩ : ∃ f, l[k]? = some f := ⟨_, List.getElem?_eq_getElem hlt⟩
        obtain ⟨g, hg2⟩ : ∃ g, l2[k]? = some g := ⟨_, List.getElem?_eq_getElem (by rw [HL.out]; exact hlt)⟩
        have hfg : frz f = frz g := by
          have := congrArg (fun x => x[k]?) HEQ.out
          simp only [frzs_get, hf, hg2, Option.map_some, Option.some.injEq] at this
          exact this
        obtain ⟨e0, e1, e2, e5, e6⟩ := frz_eq hfg
        have hva : va = some ⟨vg, vo, none⟩ := HA.out (by intro h; rw [h] at hlt; simp at hlt)
        have hua : ua = some ⟨ug, uo, none⟩ := HU.out (by intro h; rw [h] at hg2; simp at hg2)
        subst hva hua
        obtain ⟨kv, hs, hg, c0, c1, c2, c3, c4, c5, c6, hkr⟩ := HAT.out.get hf
        obtain ⟨kv2, hs2, hgu, d0, d1, d2, d3, d4, d5, d6, hkr2⟩ := HUT.out.get hg2
        rw [e0] at d0
        rw [e1] at d1
        rw [e2] at d2
        rw [e5] at d5
        have hfn : fsz f.kids < n := by have := fsz_kids hf; omega
        obtain ⟨tk, htk⟩ : ∃ t, f.tok.kind = t := ⟨_, rfl⟩
        obtain ⟨tn, htn⟩ : ∃ t, f.tok.num = t := ⟨_, rfl⟩
        obtain ⟨tt, htt⟩ : ∃ t, f.tok.text = t := ⟨_, rfl⟩
        obtain ⟨ta, hta⟩ : ∃ t, f.tok.at_ = t := ⟨_, rfl⟩
        obtain ⟨tm, htm⟩ : ∃ t, f.tok.mark = t := ⟨_, rfl⟩
        obtain ⟨ga, hga⟩ : ∃ t, g.tok.at_ = t := ⟨_, rfl⟩
        obtain ⟨gm, hgm⟩ : ∃ t, g.tok.mark = t := ⟨_, rfl⟩
        obtain ⟨fo, hfo⟩ : ∃ t, f.op = t := ⟨_, rfl⟩
        rw [htk] at c0 d0
        rw [htn] at c1 d1
        rw [htt] at c2 d2
        rw [hta] at c3
        rw [htm] at c4
        rw [hga] at d3
        rw [hgm] at d4
        rw [hfo] at c5 d5
        have m0 := (HB.out.cell (p := ⟨vg, vo + k * 7, none⟩) hg).trans c0
        have m1 := (HB.out.cell (p := ⟨vg, vo + k * 7 + 1, none⟩) hg).trans c1
        have m2 := (HB.out.cell (p := ⟨vg, vo + k * 7 + 2, none⟩) hg).trans c2
        have m3 := (HB.out.cell (p := ⟨vg, vo + k * 7 + 3, none⟩) hg).trans c3
        have m4 := (HB.out.cell (p := ⟨vg, vo + k * 7 + 4, none⟩) hg).trans c4
        have h1 := (Below.refl wr.heap.size wr).alloc (Nat.le_refl _) (.cells #[.int .i64 tk, .int .i64 tn, .string tt, .int .i64 ta, .int .i64 tm] 50)
        have b1 := HB.out.trans (h1.mono HB.out.size)
        have n0 := (b1.cell (p := ⟨ug, uo + k * 7, none⟩) hgu).trans d0
        have n1 := (b1.cell (p := ⟨ug, uo + k * 7 + 1, none⟩) hgu).trans d1
        have n2 := (b1.cell (p := ⟨ug, uo + k * 7 + 2, none⟩) hgu).trans d2
        have n3 := (b1.cell (p := ⟨ug, uo + k * 7 + 3, none⟩) hgu).trans d3
        have n4 := (b1.cell (p := ⟨ug, uo + k * 7 + 4, none⟩) hgu).trans d4
        have h2 := (Below.refl _ (wr.alloc (.cells #[.int .i64 tk, .int .i64 tn, .string tt, .int .i64 ta, .int .i64 tm] 50))).alloc (Nat.le_refl _) (.cells #[.int .i64 tk, .int .i64 tn, .string tt, .int .i64 ga, .int .i64 gm] 50)
        have b2 := b1.trans (h2.mono b1.size)
        have q5 := (b2.cell (p := ⟨vg, vo + k * 7 + 5, none⟩) hg).trans c5
        have q6 := (b2.cell (p := ⟨vg, vo + k * 7 + 6, none⟩) hg).trans c6
        have r5 := (b2.cell (p := ⟨ug, uo + k * 7 + 5, none⟩) hgu).trans d5
        have r6 := (b2.cell (p := ⟨ug, uo + k * 7 + 6, none⟩) hgu).trans d6
        have k1 : (k : Int) < (l.length : Int) := by omega
        have hlw : wr.heap.size = wr.heap.size := rfl
        have HIH := Lib.hid (fun (W : World) (hb : Below w.heap.size w W) => ih f.kids g.kids kv kv2 W hfn e6 (hkr.bl hb) (hkr2.bl hb))
        have z5 : (((wr.alloc (.cells #[.int .i64 tk, .int .i64 tn, .string tt, .int .i64 ta, .int .i64 tm] 50)).alloc (.cells #[.int .i64 tk, .int .i64 tn, .string tt, .int .i64 ga, .int .i64 gm] 50)).drew).cell? ⟨vg, vo + k * 7 + 5, none⟩ = some (.string fo) := q5
        have z6 : (((wr.alloc (.cells #[.int .i64 tk, .int .i64 tn, .string tt, .int .i64 ta, .int .i64 tm] 50)).alloc (.cells #[.int .i64 tk, .int .i64 tn, .string tt, .int .i64 ga, .int .i64 gm] 50)).drew).cell? ⟨vg, vo + k * 7 + 6, none⟩ = some kv := q6
        have x5 : (((wr.alloc (.cells #[.int .i64 tk, .int .i64 tn, .string tt, .int .i64 ta, .int .i64 tm] 50)).alloc (.cells #[.int .i64 tk, .int .i64 tn, .string tt, .int .i64 ga, .int .i64 gm] 50)).drew).cell? ⟨ug, uo + k * 7 + 5, none⟩ = some (.string fo) := r5
        have x6 : (((wr.alloc (.cells #[.int .i64 tk, .int .i64 tn, .string tt, .int .i64 ta, .int .i64 tm] 50)).alloc (.cells #[.int .i64 tk, .int .i64 tn, .string tt, .int .i64 ga, .int .i64 gm] 50)).drew).cell? ⟨ug, uo + k * 7 + 6, none⟩ = some kv2 := r6
        have BD := Lib.hid b2.drew
        clear c0 c1 c2 c3 c4 c5 c6 d0 d1 d2 d3 d4 d5 d6 hs hs2 hkr hkr2 h1 h2 b1 b2 hf hg2 hfg e0 e1 e2 e5 e6 htk htn htt hta htm hga hgm hfo hfn hlw
        go_upto_region 9 with fail
        go_region_held3 (fun w' => w'.cell? ⟨vg, vo + k * 7 + 5, none⟩ = some (.string fo) ∧ w'.cell? ⟨vg, vo + k * 7 + 6, none⟩ = some kv ∧ w'.cell? ⟨ug, uo + k * 7 + 5, none⟩ = some (.string fo) ∧ w'.cell? ⟨ug, uo + k * 7 + 6, none⟩ = some kv2)
          (first | exact ⟨z5, z6, x5, x6⟩ | exact ⟨q5, q6, r5, r6⟩ | exact ⟨u5, u6, y5, y6⟩ | go_keep)
          (first
            | (go_at_call 20; go_must (refine (HIH.out _ BD.out).mono ?_); rintro e W5 ⟨rfl, hb5⟩; have B5 := Lib.hid (BD.out.trans (hb5.mono BD.out.size)); have u5 := (hb5.cell (p := ⟨vg, vo + k * 7 + 5, none⟩) (block_lt z5)).trans z5; have u6 := (hb5.cell (p := ⟨vg, vo + k * 7 + 6, none⟩) (block_lt z6)).trans z6; have y5 := (hb5.cell (p := ⟨ug, uo + k * 7 + 5, none⟩) (block_lt x5)).trans x5; have y6 := (hb5.cell (p := ⟨ug, uo + k * 7 + 6, none⟩) (block_lt x6)).trans x6))
        go_wp2_with fail
        go_roundw
        case rel => exact ⟨k + 1, by omega, rfl, B5⟩
        case measure => simp [intOf]; omega
      · obtain rfl : k = l.length := by omega
        go_wp2_with fail
        go_ret
        exact ⟨rfl, HB.out⟩
end Go.Proofs.YtopbmndjnjnmcaaGreatDoor
