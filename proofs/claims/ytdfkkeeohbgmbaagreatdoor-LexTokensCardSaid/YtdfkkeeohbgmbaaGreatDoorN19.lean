/- Tokens: what Join of the reference says. -/
import Derived.Test.YtdfkkeeohbgmbaaGreatDoorN18
namespace Go.Proofs.YtdfkkeeohbgmbaaGreatDoor
open Go.RowKit Lx

attribute [local go_sem] Oper.semAt_some

def bCells (l : Bs) : List Value := l.map fun b => Value.int .u8 (b.toNat : Int)
theorem bCells_len (l : Bs) : (bCells l).length = l.length := by unfold bCells; simp
theorem bCells_app (a b : Bs) : bCells (a ++ b) = bCells a ++ bCells b := by unfold bCells; simp
theorem str_cells (s : ByteArray) : Lib.strCells s = bCells s.data.toList := rfl
/-- The tokens so far, joined. -/
def jl (ts : List Tok) (k : Nat) : Bs := Lib.join ((texts ts).take k) [32]
/-- What Join of the reference holds. -/
structure RJ (w : World) (ts : List Tok) (k : Nat) (v : Value) (W : World) : Prop where
  own : W.ownsRow w.heap.size 5 1 v (jl ts k).length (bCells (jl ts k))
  bel : Below w.heap.size w W
theorem RJ.bl {w W W' : World} {ts : List Tok} {k : Nat} {v : Value} (h : RJ w ts k v W) (hb : Below W.heap.size W W') : RJ w ts k v W' :=
  ⟨owns_bl' h.own hb, h.bel.trans (hb.mono h.bel.size)⟩
theorem conv_nil (w : World) (c : Nat) : (convert 81 9 (.slice none 0 c)).run Tryz.prog w = .ok (.string ⟨#[]⟩) w := by
  rw [run_convert_bytes_string w 81 9 5 none 0 c Tryz.underlying81 Tryz.underlying5 Tryz.underlying9]
  rfl

set_option maxRecDepth 100000 in
set_option maxHeartbeats 8000000 in
/-- **Join** of the reference -/
theorem refJoin_tok (v : Value) (ts : List Tok) (hts : ∀ t ∈ ts, t.text.size ≤ maxLen) (hn41 : ts.length * 41 ≤ 140737488355328) (w : World) (ha : TokRead w v ts) :
    Calls Tryz.prog 32 #[v] w fun e W => e = .returned (.string ⟨(joinS ts).toArray⟩) ∧ Below w.heap.size w W := by
  obtain ⟨i0, hi0, hz0, hz1, hz2⟩ := info_parts info5
  obtain ⟨aa, ca, rfl, hma, hra⟩ := ha
  have HA := Lib.hid hra
  have HTS := Lib.hid hts
  clear hra hts
  unfold maxLen at hma
  obtain ⟨n, hn⟩ : ∃ n, ts.length = n := ⟨_, rfl⟩
  rw [hn] at hma hn41 ⊢
  obtain ⟨J, hJ⟩ : ∃ J, joinS ts = J := ⟨_, rfl⟩
  rw [hJ]
  have HJ := Lib.hid hJ
  have HN := Lib.hid hn
  clear hJ hn
  go_enter Tryz.func32, Tryz.ntmps32
  go_wp2_with fail
  go_loopw [3, 4] (fun v x wr => ∃ k : Nat, k ≤ n ∧ x = .int .i64 k ∧ (∃ a m c, v = .slice a m c) ∧ Hid (RJ w ts k v wr) ∧ Hid (∀ t ∈ ts.take k, tokOk t = true)) (fun _ x _ => n - (intOf x).toNat)
  case atStart => exact ⟨0, by omega, rfl, ⟨_, _, _, rfl⟩, Lib.hid ⟨World.ownsRow_nil _ _ _ _, Below.refl _ _⟩, Lib.hid (by simp)⟩
  case round =>
    obtain ⟨k, hk, rfl, ⟨va, vn, vc, rfl⟩, HI, HT⟩ := hrel
    by_cases hlt : k < n
    · obtain ⟨p, hp⟩ : ∃ p, ts[k]? = some p := ⟨_, List.getElem?_eq_getElem (by have := HN.out; omega)⟩
      have hbw := HI.out.bel
      obtain ⟨ga, oa, rfl, hga, a0, a1, a2, a3, a4⟩ := HA.out k p hp
      have HCK := Lib.hid (fun W => refCheck_tok p (HTS.out p (List.mem_of_getElem? hp)) W)
      have HP := Lib.hid hp
      have A2 := Lib.hid a2
      have HGA := Lib.hid hga
      obtain ⟨pk, pn, px, pa, pm⟩ := p
      unfold TokV tokC at HCK
      simp only at *
      have a0 := (hbw.cell (p := ⟨ga, _, none⟩) hga).trans a0
      have a1 := (hbw.cell (p := ⟨ga, _, none⟩) hga).trans a1
      have a2 := (hbw.cell (p := ⟨ga, _, none⟩) hga).trans a2
      have a3 := (hbw.cell (p := ⟨ga, _, none⟩) hga).trans a3
      have a4 := (hbw.cell (p := ⟨ga, _, none⟩) hga).trans a4
      have hk0 : (0 : Int) ≤ (k : Int) := by omega
      have hk1 : (k : Int) < (n : Int) := by omega
      have hd : decide (k < n) = true := by simpa using hlt
      have hd2 : decide ((k : Int) < (n : Int)) = true := decide_eq_true hk1
      clear hp hga hbw
      go_wp2_with fail
      refine (HCK.out _).mono ?_
      rintro e w2 ⟨rfl, hb2⟩
      cases hok : tokOk ⟨pk, pn, px, pa, pm⟩
      · rw [tokEr_no hok]
        have hJ : J = [] := by
          rw [← HJ.out]; unfold joinS; rw [if_neg]
          intro h
          have := (List.all_eq_true.1 h) _ (List.mem_of_getElem? HP.out)
          rw [hok] at this; cases this
        subst hJ
        have HB := Lib.hid (HI.out.bel.trans (hb2.mono HI.out.bel.size))
        clear hb2 a0 a1 a2 a3 a4
        go_wp2_with fail
        go_ret
        exact ⟨rfl, HB.out⟩
      · rw [tokEr_ok hok]
        have hI2 := HI.out.bl hb2
        have HI2 := Lib.hid hI2
        have hszw : w.heap.size ≤ w2.heap.size := hI2.bel.size
        have HT2 := Lib.hid (show ∀ t ∈ ts.take (k + 1), tokOk t = true from by
          rw [List.take_add_one, HP.out]
          intro t htm
          rw [List.mem_append] at htm
          rcases htm with h | h
          · exact HT.out t h
          · simp at h; rw [h]; exact hok)
        have hstep : jl ts (k + 1) = (if k = 0 then [] else jl ts k ++ [32]) ++ px.data.toList := join_step (texts ts) k _ (texts_at HP.out)
        have hjl : (jl ts k).length ≤ k * 41 := by
          have h1 := join_len ((texts ts).take k) (fun x hx => by
            obtain ⟨i, hi⟩ := List.getElem?_of_mem hx
            have hik := (List.getElem?_eq_some_iff.1 hi).1
            rw [List.length_take, texts_len] at hik
            rw [List.getElem?_take, if_pos (by omega)] at hi
            unfold texts at hi
            rw [List.getElem?_map, Option.map_eq_some_iff] at hi
            obtain ⟨t, ht, rfl⟩ := hi
            exact (tok_text (HT.out t (List.mem_of_getElem? (i := i) (by rw [List.getElem?_take, if_pos (by omega)]; exact ht)))).1) k (by rw [List.length_take, texts_len]; have := HN.out; omega)
          rw [List.take_take, Nat.min_self] at h1
          exact h1
        have hpx := (tok_text hok).1
        simp only [Array.length_toList, ByteArray.size_data] at hpx
        have HST := Lib.hid hstep
        have hm2 : ∀ W, Below w2.heap.size w2 W → W.cell? ⟨ga, oa + k * 5 + 2, none⟩ = some (.string px) := fun W hb => ((hI2.bel.trans (hb.mono hI2.bel.size)).cell (p := ⟨ga, _, none⟩) HGA.out).trans A2.out
        have HM2 := Lib.hid hm2
        clear hb2 a0 a1 a2 a3 a4 hI2 hstep hm2
        by_cases hk00 : k = 0
        · have d0 : decide ((0 : Int) < (k : Int)) = false := decide_eq_false (by omega)
          have d0b : decide (0 < k) = false := decide_eq_false (by omega)
          have hj0 : jl ts k = [] := by rw [hk00]; rfl
          have m2 := HM2.out w2 (Below.refl _ _)
          have HST0 := Lib.hid (show jl ts (k + 1) = jl ts k ++ px.data.toList from by rw [HST.out, if_pos hk00, hj0])
          clear hk00 hj0
          go_wp2_with (at_builtin; refine Lib.wpList_append_own_string _ rfl (.tmp 22) (.tmp 27) 81 9 rfl w.heap.size 5 i0 Tryz.underlying81 Tryz.underlying9 hi0 hz0 hz1 hz2 (.slice va vn vc) _ _ (by rfl) HI2.out.own px (by rfl) (by unfold maxLen; omega) (by omega) hszw ?_; intro v' w' hown1 hgrow hnil; obtain ⟨a', m', c', rfl⟩ := ownsRow_slice hown1)
          go_roundw
          case rel => exact ⟨k + 1, by omega, rfl, ⟨_, _, _, rfl⟩, Lib.hid ⟨by rw [HST0.out, List.length_append, bCells_app]; simpa [str_cells] using hown1, below_grown HI2.out.bel (Nat.le_refl _) hgrow (fun j e => (HI2.out.own.lt j e).1)⟩, HT2⟩
          case measure => simp [intOf] <;> omega
        · have d0 : decide ((0 : Int) < (k : Int)) = true := decide_eq_true (by omega)
          have d0b : decide (0 < k) = true := decide_eq_true (by omega)
          have HST0 := Lib.hid (show jl ts (k + 1) = jl ts k ++ [32] ++ px.data.toList from by rw [HST.out, if_neg hk00])
          have hba := HI2.out.bel.alloc HI2.out.bel.size (.cells #[.int .u8 32] 5)
          have HBA := Lib.hid hba
          clear hk00 hba
          go_wp2_with (first
            | (at_builtin; refine wpList_append_lies _ rfl (.tmp 19) (.tmp 20) 81 rfl w.heap.size 5 i0 _ 1 1 Tryz.underlying81 hi0 hz0 hz1 hz2 rfl (by omega) (.slice va vn vc) _ _ (by rfl) (HI2.out.own.alloc _) ⟨w2.heap.size, 0, none⟩ 1 1 [.int .u8 32] (by rfl) (by rfl) (World.news_of_block (cs := #[.int .u8 32]) (t := 5) (fr := (0, 0)) (heap_alloc_new w2 _)) (by simp [Value.oneCell']) (by omega) (by unfold maxLen; omega) (by omega) (by rw [World.size_alloc]; omega) (w2.heap.size + 1) (World.size_alloc _ _) ?_; intro gg cap w10 hown1 hgrow hat hgl; have hb10 := below_grown HBA.out (Nat.le_refl _) hgrow (fun j e => (HI2.out.own.lt j e).1); have m3 : w10.cell? ⟨ga, oa + k * 5 + 2, none⟩ = some (.string px) := (hb10.cell (p := ⟨ga, _, none⟩) HGA.out).trans A2.out; have hs10 := hb10.size)
            | (at_builtin; refine Lib.wpList_append_own_string _ rfl (.tmp 22) (.tmp 27) 81 9 rfl w.heap.size 5 i0 Tryz.underlying81 Tryz.underlying9 hi0 hz0 hz1 hz2 (.slice (some ⟨gg, 0, none⟩) ((jl ts k).length + 1) cap) _ _ (by rfl) hown1 px (by rfl) (by unfold maxLen; omega) (by omega) hs10 ?_; intro v' w' hown2 hgrow2 hnil; obtain ⟨a', m', c', rfl⟩ := ownsRow_slice hown2))
          go_roundw
          case rel => exact ⟨k + 1, by omega, rfl, ⟨_, _, _, rfl⟩, Lib.hid ⟨by rw [HST0.out, List.length_append, List.length_append, bCells_app, bCells_app]; simpa [str_cells, bCells] using hown2, below_grown hb10 (Nat.le_refl _) hgrow2 (fun j e => (hown1.lt j e).1)⟩, HT2⟩
          case measure => simp [intOf] <;> omega
    · have hd : decide (k < n) = false := by simpa using hlt
      have hd2 : decide ((k : Int) < (n : Int)) = false := decide_eq_false (by omega)
      have hkn : k = ts.length := by have := HN.out; omega
      have hall : ts.all tokOk = true := List.all_eq_true.2 (fun t ht => HT.out t (by rw [hkn, List.take_length]; exact ht))
      have hJ : J = jl ts k := by
        rw [← HJ.out]; unfold joinS jl; rw [if_pos hall, hkn, ← texts_len ts, List.take_length]
      subst hJ
      have hown := HI.out.own
      have HB := Lib.hid HI.out.bel
      have hcv : (convert 81 9 (.slice va vn vc)).run Tryz.prog wr = .ok (.string ⟨(jl ts k).toArray⟩) wr := by
        rcases hown.2 with ⟨h, h0⟩ | ⟨g, cap, cur, h, _, _, _⟩
        · cases h
          rw [List.length_eq_zero_iff.1 h0]; exact conv_nil wr 0
        · cases h
          refine run_convert_bytes_back wr 81 9 5 ⟨g, 0, none⟩ vc (jl ts k) Tryz.underlying81 Tryz.underlying5 Tryz.underlying9 (fun j hj => ?_)
          rw [show (⟨g, 0, none⟩ : Addr).add j = ⟨g, 0 + j, none⟩ from Go.WideShapes.add_plain _ _ _, Nat.zero_add, hown.cellAt j (by omega)]
          unfold bCells
          rw [List.getElem?_map, List.getElem?_eq_getElem hj]; rfl
      obtain ⟨s, hs⟩ : ∃ s : ByteArray, (⟨(jl ts k).toArray⟩ : ByteArray) = s := ⟨_, rfl⟩
      rw [hs] at hcv
      have HS := Lib.hid hs
      clear hown hs hkn hall
      go_wp2_with fail
      go_ret
      exact ⟨by rw [HS.out]; rfl, HB.out⟩
end Go.Proofs.YtdfkkeeohbgmbaaGreatDoor
