/- Tokens: what Join of the program and of the reference say. -/
import Derived.Test.YtdfkkeeohbgmbaaGreatDoorN17
import Derived.Lib.AppendStr
import Derived.Laws.IdiomStrings
import Derived.Deep.AppendLies
namespace Go.Proofs.YtdfkkeeohbgmbaaGreatDoor
open Go.RowKit Lx

attribute [local go_sem] Oper.semAt_some

theorem info9 : (Tryz.prog.info? 9).map (fun i => (i.zero, i.size, i.bytes)) = some (some (.string ⟨#[]⟩), 1, 16) := by kernel_rfl
theorem info5 : (Tryz.prog.info? 5).map (fun i => (i.zero, i.size, i.bytes)) = some (some (.int .u8 0), 1, 1) := by kernel_rfl

def texts (ts : List Tok) : List Bs := ts.map fun t => t.text.data.toList
/-- The tokens, joined. -/
def joinS (ts : List Tok) : Bs := if ts.all tokOk = true then Lib.join (texts ts) [32] else []
theorem texts_len (ts : List Tok) : (texts ts).length = ts.length := by unfold texts; simp
theorem texts_at {ts : List Tok} {k : Nat} {t : Tok} (h : ts[k]? = some t) : (texts ts)[k]? = some t.text.data.toList := by unfold texts; simp [h]
theorem join_step (xs : List Bs) (k : Nat) (y : Bs) (h : xs[k]? = some y) : Lib.join (xs.take (k + 1)) [32] = (if k = 0 then [] else Lib.join (xs.take k) [32] ++ [32]) ++ y := by
  match xs, k, h with
  | x :: r, 0, h =>
    simp at h; subst h
    simp [Lib.join_one]
  | x :: r, k + 1, h =>
    rw [if_neg (by omega), List.take_succ_cons, Lib.join_cons, List.take_succ_cons, Lib.join_cons, Lib.joinTail_take_succ [32] r k y (by simpa using h)]
    simp
theorem join_len (xs : List Bs) (h : ∀ x ∈ xs, x.length ≤ 40) : ∀ k, k ≤ xs.length → (Lib.join (xs.take k) [32]).length ≤ k * 41
  | 0, _ => by simp [Lib.join_nil]
  | k + 1, hk => by
    have ih := join_len xs h k (by omega)
    have hx : xs[k]? = some xs[k] := List.getElem?_eq_getElem (by omega)
    rw [join_step xs k _ hx, List.length_append]
    have := h xs[k] (List.getElem_mem _)
    split
    · simp only [List.length_nil]; omega
    · simp only [List.length_append, List.length_singleton]; omega
theorem tok_text {t : Tok} (h : tokOk t = true) : t.text.data.toList.length ≤ 40 ∧ 1 ≤ t.text.data.toList.length := by
  have h0 : qKind t.text.data.toList ≠ 0 := by
    unfold tokOk at h
    simp only [Bool.and_eq_true, Bool.not_eq_true', beq_eq_false_iff_ne] at h
    have := h.1.1.1.1
    intro e; apply this; rw [e]; rfl
  refine ⟨kind_len h0, ?_⟩
  rcases Nat.eq_zero_or_pos t.text.data.toList.length with h1 | h1
  · exact absurd (kind_none h1) h0
  · exact h1

/-- What Join of the program holds. -/
structure JoI (w : World) (ts : List Tok) (k : Nat) (v : Value) (W : World) : Prop where
  own : W.ownsRow w.heap.size 9 1 v k ((ts.take k).map fun t => .string t.text)
  bel : Below w.heap.size w W
theorem JoI.bl {w W W' : World} {ts : List Tok} {k : Nat} {v : Value} (h : JoI w ts k v W) (hb : Below W.heap.size W W') : JoI w ts k v W' :=
  ⟨owns_bl' h.own hb, h.bel.trans (hb.mono h.bel.size)⟩
theorem JoI.more {w W W2 W' : World} {ts : List Tok} {k : Nat} {v v' : Value} {t : Tok} (h : JoI w ts k v W) (ht : ts[k]? = some t) (hb : Below W.heap.size W W2)
    (hown : W'.ownsRow w.heap.size 9 1 v' (k + 1) (((ts.take k).map fun t => .string t.text) ++ [.string t.text])) (hg : W2.grownBy W' v.ownBlock) : JoI w ts (k + 1) v' W' := by
  refine ⟨?_, below_grown (h.bel.trans (hb.mono h.bel.size)) (Nat.le_refl _) hg (fun j e => (h.own.lt j e).1)⟩
  rw [List.take_add_one, ht, List.map_append]
  simpa using hown

set_option maxRecDepth 100000 in
set_option maxHeartbeats 8000000 in
/-- **Join** -/
theorem join_tok (v : Value) (ts : List Tok) (hts : ∀ t ∈ ts, t.text.size ≤ maxLen) (hn41 : ts.length * 41 ≤ 140737488355328) (w : World) (he : Env w) (ha : TokRead w v ts) :
    Calls Tryz.prog 31 #[v] w fun e W => e = .returned (.string ⟨(joinS ts).toArray⟩) ∧ Below w.heap.size w W := by
  obtain ⟨i0, hi0, hz0, hz1, hz2⟩ := info_parts info9
  obtain ⟨aa, ca, rfl, hma, hra⟩ := ha
  have HA := Lib.hid hra
  have HE := Lib.hid he
  have HTS := Lib.hid hts
  clear hra he hts
  unfold maxLen at hma
  obtain ⟨n, hn⟩ : ∃ n, ts.length = n := ⟨_, rfl⟩
  rw [hn] at hma hn41 ⊢
  obtain ⟨J, hJ⟩ : ∃ J, joinS ts = J := ⟨_, rfl⟩
  rw [hJ]
  have HJ := Lib.hid hJ
  have HN := Lib.hid hn
  clear hJ hn
  go_enter Tryz.func31, Tryz.ntmps31
  go_wp2_with fail
  go_loopw [3, 5, 8] (fun v _ x wr => ∃ k : Nat, k ≤ n ∧ x = .int .i64 k ∧ (∃ a m c, v = .slice a m c) ∧ Hid (JoI w ts k v wr) ∧ Hid (∀ t ∈ ts.take k, tokOk t = true)) (fun _ _ x _ => n - (intOf x).toNat)
  case atStart => exact ⟨0, by omega, rfl, ⟨_, _, _, rfl⟩, Lib.hid ⟨World.ownsRow_nil _ _ _ _, Below.refl _ _⟩, Lib.hid (by simp)⟩
  case round =>
    obtain ⟨k, hk, rfl, ⟨va, vn, vc, rfl⟩, HI, HT⟩ := hrel
    by_cases hlt : k < n
    · obtain ⟨p, hp⟩ : ∃ p, ts[k]? = some p := ⟨_, List.getElem?_eq_getElem (by have := HN.out; omega)⟩
      have hbw := HI.out.bel
      obtain ⟨ga, oa, rfl, hga, a0, a1, a2, a3, a4⟩ := HA.out k p hp
      have HCK := Lib.hid (fun W (hE : Env W) => check_tok p (HTS.out p (List.mem_of_getElem? hp)) W hE)
      have HP := Lib.hid hp
      obtain ⟨pk, pn, px, pa, pm⟩ := p
      unfold TokV tokC at HCK
      simp only at *
      have a0 := (hbw.cell (p := ⟨ga, _, none⟩) hga).trans a0
      have a1 := (hbw.cell (p := ⟨ga, _, none⟩) hga).trans a1
      have a2 := (hbw.cell (p := ⟨ga, _, none⟩) hga).trans a2
      have a3 := (hbw.cell (p := ⟨ga, _, none⟩) hga).trans a3
      have a4 := (hbw.cell (p := ⟨ga, _, none⟩) hga).trans a4
      have hk0 : (0 : Int) ≤ (k : Int) := by omega
      have hk1 : (k : Int) < (n : Int) := by omega
      have hd : decide (k < n) = true := by simpa using hlt
      have hd2 : decide ((k : Int) < (n : Int)) = true := decide_eq_true hk1
      have ht := Lib.hid (heap_alloc_new wr (.cells #[.int .i64 pk, .int .i64 pn, .string px, .int .i64 pa, .int .i64 pm] 51))
      have hal := (Below.refl wr.heap.size wr).alloc (Nat.le_refl _) (.cells #[.int .i64 pk, .int .i64 pn, .string px, .int .i64 pa, .int .i64 pm] 51)
      have HAL := Lib.hid hal
      clear hp hga hbw hal
      go_wp2_with fail
      refine (HCK.out _ (HE.out.any rfl (HI.out.bel.trans (HAL.out.mono HI.out.bel.size)))).mono ?_
      rintro e w2 ⟨rfl, hb2⟩
      cases hok : tokOk ⟨pk, pn, px, pa, pm⟩
      · rw [tokEr_no hok]
        have hJ : J = [] := by
          rw [← HJ.out]; unfold joinS; rw [if_neg]
          intro h
          have := (List.all_eq_true.1 h) _ (List.mem_of_getElem? HP.out)
          rw [hok] at this; cases this
        subst hJ
        have HB := Lib.hid ((HI.out.bel.trans (HAL.out.mono HI.out.bel.size)).trans (hb2.mono (Nat.le_trans HI.out.bel.size HAL.out.size)))
        clear hb2 a0 a1 a2 a3 a4
        go_wp2_with fail
        go_ret
        exact ⟨rfl, HB.out⟩
      · rw [tokEr_ok hok]
        have hT2 := (hb2.block _ (Array.getElem?_eq_some_iff.1 ht.out).1).trans ht.out
        have m2 : w2.cell? ⟨wr.heap.size, 2, none⟩ = some (.string px) := by rw [cell_of_row _ _ _ _ _ _ hT2]; rfl
        have hI2 := (HI.out.bl HAL.out).bl hb2
        have HI2 := Lib.hid hI2
        have hszw : w.heap.size ≤ w2.heap.size := hI2.bel.size
        have HT2 := Lib.hid (show ∀ t ∈ ts.take (k + 1), tokOk t = true from by
          rw [List.take_add_one, HP.out]
          intro t htm
          rw [List.mem_append] at htm
          rcases htm with h | h
          · exact HT.out t h
          · simp at h; rw [h]; exact hok)
        clear hT2 hI2 hb2 a0 a1 a2 a3 a4
        go_wp2_with (at_builtin; refine wpList_append_lies _ rfl (.tmp 15) (.tmp 18) 79 rfl w.heap.size 9 i0 _ 1 16 Tryz.underlying79 hi0 hz0 hz1 hz2 rfl (by omega) (.slice va vn vc) _ _ (by rfl) (HI2.out.own.alloc _) ⟨w2.heap.size, 0, none⟩ 1 1 [.string px] (by rfl) (by rfl) (World.news_of_block (cs := #[.string px]) (t := 9) (fr := (0, 0)) (heap_alloc_new w2 _)) (by simp [Value.oneCell']) (by omega) (by unfold maxLen; omega) (by omega) (by rw [World.size_alloc]; omega) (w2.heap.size + 1) (World.size_alloc _ _) ?_; intro gg cap w10 hown1 hgrow hat hgl)
        go_roundw
        case rel => exact ⟨k + 1, by omega, rfl, ⟨_, _, _, rfl⟩, Lib.hid (HI2.out.more HP.out ((Below.refl _ w2).alloc (Nat.le_refl _) _) hown1 hgrow), HT2⟩
        case measure => simp [intOf] <;> omega
    · have hd : decide (k < n) = false := by simpa using hlt
      have hd2 : decide ((k : Int) < (n : Int)) = false := decide_eq_false (by omega)
      have hkn : k = ts.length := by have := HN.out; omega
      have hall : ts.all tokOk = true := List.all_eq_true.2 (fun t ht => HT.out t (by rw [hkn, List.take_length]; exact ht))
      have hJ : J = Lib.join (texts ts) [32] := by rw [← HJ.out]; unfold joinS; rw [if_pos hall]
      have hown := HI.out.own
      rw [hkn, List.take_length] at hown
      have hlen : (Lib.join ((ts.map fun t => t.text).map (·.data.toList)) (⟨#[32]⟩ : ByteArray).data.toList).length ≤ 140737488355328 := by
        have h1 := join_len (texts ts) (fun x hx => by
          unfold texts at hx; rw [List.mem_map] at hx
          obtain ⟨t, ht, rfl⟩ := hx
          exact (tok_text (List.all_eq_true.1 hall t ht)).1) (texts ts).length (Nat.le_refl _)
        rw [List.take_length, texts_len] at h1
        have : (ts.map fun t => t.text).map (·.data.toList) = texts ts := by unfold texts; rw [List.map_map]; rfl
        rw [this]
        have := HN.out
        exact Nat.le_trans h1 (by omega)
      subst hJ
      have HB := Lib.hid HI.out.bel
      have hJJ : Lib.join ((ts.map fun t => t.text).map (·.data.toList)) (⟨#[32]⟩ : ByteArray).data.toList = Lib.join (texts ts) [32] := by
        unfold texts; rw [List.map_map]; rfl
      have HJJ := Lib.hid hJJ
      by_cases hz : n = 0
      · have hts0 : ts = [] := List.length_eq_zero_iff.1 (by have := HN.out; omega)
        have hvn : vn = 0 := by
          rcases hown.2 with ⟨h, _⟩ | ⟨g, cap, cur, h, _⟩
          · cases h; rfl
          · cases h; rw [hts0]; rfl
        subst hvn
        have hJ0 : Lib.join (texts ts) [32] = [] := by rw [hts0]; rfl
        have HJ0 := Lib.hid hJ0
        clear hlen hJJ hown hts0 hJ0 hkn hz
        go_wp2_with fail
        refine (Tryz.strings_Join_none va vc ⟨#[32]⟩ _).mono ?_
        rintro e w2 ⟨rfl, rfl⟩
        go_wp2_with fail
        go_ret
        exact ⟨by rw [HJ0.out]; rfl, HB.out⟩
      · have hform : ∃ g, va = some ⟨g, 0, none⟩ ∧ vn = ts.length ∧ g < wr.heap.size ∧ vn ≤ vc := by
          rcases hown.2 with ⟨_, h0⟩ | ⟨g, cap, cur, h, _, hgb, hcp, _⟩
          · have := HN.out; omega
          · cases h; exact ⟨g, rfl, rfl, (Array.getElem?_eq_some_iff.1 hgb).1, hcp⟩
        obtain ⟨g, rfl, hvn, hgl, hvc⟩ := hform
        have hlm : (ts.map fun t => t.text).length = vn := by rw [List.length_map, hvn]
        have hcells : ∀ (j : Nat) x, (ts.map fun t => t.text)[j]? = some x → wr.cell? ⟨g, 0 + j, none⟩ = some (.string x) := by
          intro j x hx
          rw [List.getElem?_map, Option.map_eq_some_iff] at hx
          obtain ⟨t, ht, rfl⟩ := hx
          have hjl := (List.getElem?_eq_some_iff.1 ht).1
          rw [← hvn] at hown
          rw [Nat.zero_add, hown.cellAt j (by rw [hvn]; omega), List.getElem?_map, ht]; rfl
        have hvn2 : vn ≤ 140737488355328 := by have := HN.out; omega
        have hJoin := Tryz.strings_Join g 0 vc (ts.map fun t => t.text) ⟨#[32]⟩ wr hcells hgl (by rw [hlm]; exact hvn2) (by rw [hlm]; exact hvc) hlen
        rw [hlm, HJJ.out] at hJoin
        have HJN := Lib.hid hJoin
        clear hlen hJJ hown hJoin hcells hlm hvn hkn
        go_wp2_with fail
        refine HJN.out.mono ?_
        rintro e w2 ⟨rfl, hb2⟩
        go_wp2_with fail
        go_ret
        exact ⟨rfl, HB.out.trans (hb2.mono HB.out.size)⟩
end Go.Proofs.YtdfkkeeohbgmbaaGreatDoor
