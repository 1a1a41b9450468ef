/- Package fragment: clone, Same, Split and Join of the program and of the reference, and the law FragLists. -/
import Derived.Test.YtopbmndjnjnmcaaGreatDoorPV
import Derived.SizedLaws
import Derived.Laws.AppendOwnNone
import Derived.Laws.OwnMore
import Derived.Deep.AppendLies
import Derived.Deep.RegionWith
import Derived.Deep.CutBlock
namespace Go.Proofs.YtopbmndjnjnmcaaGreatDoor
open Go.RowKit Lx Go.Sort
/- (L0) -/
/-- No list in a list is longer than memory can hold. -/
def LensK : List Fr → Prop
  | [] => True
  | .mk _ _ ks :: r => (ks.length * 88 ≤ 140737488355328 ∧ LensK ks) ∧ LensK r
def Lens (l : List Fr) : Prop := l.length * 88 ≤ 140737488355328 ∧ LensK l
theorem lensK_cons (f : Fr) (r : List Fr) : LensK (f :: r) ↔ Lens f.kids ∧ LensK r := by cases f; rw [LensK]; rfl
theorem LensK.at : ∀ {l : List Fr} {k : Nat} {f : Fr}, LensK l → l[k]? = some f → Lens f.kids
  | [], _, _, _, h => by cases h
  | g :: r, 0, f, hl, h => by
    simp only [List.getElem?_cons_zero, Option.some.injEq] at h
    subst h; exact ((lensK_cons _ _).1 hl).1
  | g :: r, k + 1, f, hl, h => by
    rw [List.getElem?_cons_succ] at h
    exact LensK.at ((lensK_cons _ _).1 hl).2 h
theorem lensK_of : ∀ {l : List Fr}, (∀ f ∈ l, Lens f.kids) → LensK l
  | [], _ => by rw [LensK]; trivial
  | f :: r, h => (lensK_cons f r).2 ⟨h f List.mem_cons_self, lensK_of fun g hg => h g (List.mem_cons_of_mem _ hg)⟩
theorem lens_nil : Lens [] := ⟨Nat.zero_le _, by rw [LensK]; trivial⟩
theorem own_form' {W : World} {base e size n : Nat} {v : Value} {xs : List Value} (h : W.ownsRow base e size v n xs) : ∃ a c, v = .slice a n c := by
  obtain ⟨_, ⟨h, h0⟩ | ⟨g, cap, cur, h, _⟩⟩ := h
  · exact ⟨none, 0, by rw [h, h0]⟩
  · exact ⟨_, _, h⟩
section
open Go.ChangeShapes Go.WideShapes Go.ChangeAt
theorem bytes52 : Tryz.prog.bytesOf 52 = 88 := by kernel_rfl
theorem fields52t : (Tryz.prog.fieldsOf 52).toList.map (·.type) = [50, 9, 25] := by kernel_rfl
theorem weights25 {H : Type} (elems spare : List (DataW H)) (h : ∀ n ∈ DataW.weights Tryz.prog 25 (.slice elems spare), n ≤ reachBytes) : (elems.length + spare.length) * 88 ≤ 140737488351232 := by
  have := h ((elems.length + spare.length) * 88) (by simp [DataW.weights, Tryz.underlying25, bytes52])
  exact this
theorem weightsAll_mem {H : Type} {e : TypeId} : ∀ {l : List (DataW H)} {d : DataW H}, d ∈ l → ∀ n ∈ DataW.weights Tryz.prog e d, n ∈ DataW.weightsAll Tryz.prog e l
  | x :: r, d, h, n, hn => by
    simp only [DataW.weightsAll, List.mem_append]
    rcases List.mem_cons.1 h with rfl | h
    · exact .inl hn
    · exact .inr (weightsAll_mem h n hn)
theorem weights25e {H : Type} (elems spare : List (DataW H)) (d : DataW H) (h : d ∈ elems) : ∀ n ∈ DataW.weights Tryz.prog 52 d, n ∈ DataW.weights Tryz.prog 25 (.slice elems spare) := fun n hn => by
  simp only [DataW.weights, Tryz.underlying25, List.mem_cons, List.mem_append]
  exact .inr (.inl (weightsAll_mem h n hn))
theorem weights52 {H : Type} (y0 y1 y2 : DataW H) : ∀ n ∈ DataW.weights Tryz.prog 25 y2, n ∈ DataW.weights Tryz.prog 52 (.agg [y0, y1, y2]) := fun n hn => by
  simp only [DataW.weights, Tryz.underlying52]
  exact DataW.weights_mem_each (j := 2) (t := 25) (by rfl) rfl n hn
variable {H : Type} {enc : TypeId × Value → H}

set_option maxRecDepth 100000 in
/-- A slice of fragments, by its fuel. -/
theorem open_frsL {W : World} : ∀ (fuel : Nat) (cs : List Value) (x : DataW H × List MemPlace), DataW.trod enc Tryz.prog W 0 (fun _ => true) true fuel 25 cs = some x →
    ∃ (a : Option Addr) (len cap : Nat) (l : List Fr), cs = [.slice a len cap] ∧ FrRead W (fun _ => True) (.slice a len cap) l ∧ TxtOk l ∧ (a = none → cap = 0) ∧ ((x.1 = .nil ∧ l = []) ∨ ∃ elems spare, x.1 = .slice elems spare ∧ elems.length = l.length) ∧ ((∀ n ∈ DataW.weights Tryz.prog 25 x.1, n ≤ reachBytes) → Lens l) := by
  intro fuel
  induction fuel using Nat.strongRecOn with
  | ind fuel ih =>
    intro cs x h
    rcases DataW.trod_slice Tryz.underlying25 h with ⟨rfl, rfl⟩ | ⟨a, len, cap, elems, rest, n, rfl, rfl, rfl, _, hl, hm, hel, hx, _, _⟩
    · exact ⟨none, 0, 0, [], rfl, .nil _ _ _ _, .nil, fun _ => rfl, .inl ⟨rfl, rfl⟩, fun _ => lens_nil⟩
    · rw [c52] at hx
      obtain ⟨T, hT⟩ := Go.Deep.choose_lt (α := Fr) (n := len) (p := fun i f => (∃ kv, W.cells? 0 (a.add (i * 7)) 7 = some (frC f.tok f.op kv) ∧ FrRead W (fun _ => True) kv f.kids) ∧ f.tok.text.size ≤ maxLen ∧ f.op.size ≤ maxLen ∧ TxtOk f.kids ∧ (∀ y, elems[i]? = some y → (∀ n ∈ DataW.weights Tryz.prog 52 y.1, n ≤ reachBytes) → Lens f.kids)) (fun i hi => by
        have h1 := hx i hi
        rw [List.getElem?_eq_getElem (by omega)] at h1
        obtain ⟨cs', h2, h3⟩ := Option.bind_eq_some_iff.1 h1
        obtain ⟨_, hlen, _⟩ := World.cells?_some h2
        obtain ⟨xs, k, rfl, hxe, _, hxl, hf⟩ := DataW.trod_struct Tryz.underlying52 h3
        match cs', hlen, xs, hxl, hxe with
        | [v0, v1, v2, v3, v4, v5, v6], _, [y0, y1, y2], _, hxe =>
          have e0 := hf 0 _ rfl
          have e1 := hf 1 _ rfl
          have e2 := hf 2 _ rfl
          simp [c50, c25, cells9] at e0 e1 e2
          obtain ⟨t, ht, htz⟩ := open_tok (by rfl) e0
          obtain ⟨op, hop, _, hoz⟩ := DataW.trod_string Tryz.underlying9 e1
          obtain ⟨ka, kn, kc, ks, hks, hkr, hkt, _, _, hkl⟩ := ih k (by omega) _ _ e2
          simp only [tokC, List.cons.injEq, and_true] at ht hop hks
          obtain ⟨rfl, rfl, rfl, rfl, rfl⟩ := ht
          subst hop hks
          exact ⟨.mk t op ks, ⟨_, h2, hkr⟩, htz, hoz, hkt, fun y hy hw => hkl fun n hn => hw n (by
            rw [List.getElem?_eq_getElem (by omega)] at hy
            rw [← Option.some.inj hy, hxe]
            exact weights52 _ _ _ n hn)⟩)
      have hlt : ((List.range len).map T).length = len := by simp
      refine ⟨some a, len, cap, (List.range len).map T, rfl, ?_, txtOk_of fun f hf => ?_, (fun h => by cases h), .inr ⟨_, _, rfl, by simp [hel]⟩, fun hw => ⟨?_, lensK_of fun f hf => ?_⟩⟩
      · rcases Nat.eq_zero_or_pos len with rfl | hpos
        · exact ⟨some a, cap, 0, 0, rfl, ⟨Nat.zero_le _, Nat.zero_le _⟩, fun h => absurd rfl h, .nil _ _⟩
        · obtain ⟨⟨kv0, h0, _⟩, _⟩ := hT 0 hpos
          obtain ⟨_, _, hc0⟩ := World.cells?_some h0
          have z0 := hc0 0 (by omega)
          rw [Go.Deep.add_add] at z0
          have z1 := block_of_cell (z0.trans rfl)
          have hadd := fun i => cell_add (z0.trans rfl) i
          obtain ⟨ea, _⟩ := hadd 0
          refine ⟨some a, cap, a.block, a.off, by rw [hlt], ⟨by rw [hlt]; omega, by rw [hlt]; exact hl⟩, fun _ => congrArg some ea, FrAt.of (by rw [ea] at z1; simpa [Addr.add] using z1) fun k f hk => ?_⟩
          obtain ⟨hi, he⟩ := List.getElem?_eq_some_iff.1 hk
          have hkl : k < len := by simpa using hi
          have ht : T k = f := by simpa using he
          subst ht
          obtain ⟨⟨kv, h1, h2⟩, _⟩ := hT k hkl
          obtain ⟨_, _, hc⟩ := World.cells?_some h1
          refine ⟨kv, fun j hj => ?_, h2⟩
          have := hc j hj
          rw [Go.Deep.add_add, (hadd _).2] at this
          rw [Nat.add_assoc]; exact this
      · obtain ⟨i, hi, rfl⟩ := List.mem_map.1 hf
        have := (hT i (List.mem_range.1 hi)).2
        exact ⟨this.1, this.2.1, this.2.2.1⟩
      · have := weights25 _ _ hw
        rw [hlt]
        simp only [List.length_map, hel] at this
        omega
      · obtain ⟨i, hi, rfl⟩ := List.mem_map.1 hf
        have hi' := List.mem_range.1 hi
        refine (hT i hi').2.2.2.2 elems[i] (List.getElem?_eq_getElem (by omega)) fun n hn => hw n (weights25e _ _ _ ?_ n hn)
        exact List.mem_map.2 ⟨_, List.getElem_mem _, rfl⟩

set_option maxRecDepth 100000 in
/-- A slice of fragments. -/
theorem open_fragsL {W : World} {v : Value} {base : Nat} {d : DataW H} {p : List MemPlace} (hv : Value.okWide Tryz.prog W .any base 25 v) {ts : List TypeId} {ds : List (DataW H)} (hsz : (DataW.weightsEach Tryz.prog ts ds).all (· ≤ reachBytes) = true) {j : Nat} (htj : ts[j]? = some 25) (hdj : ds[j]? = some d) (h : DataW.Trod enc Tryz.prog W 0 (fun _ => true) true 25 v d p) :
    ∃ l : List Fr, FrRead W (fun _ => True) v l ∧ TxtOk l ∧ (∀ n c, v = .slice none n c → c = 0) ∧ ((d = .nil ∧ l = []) ∨ ∃ elems spare, d = .slice elems spare ∧ elems.length = l.length) ∧ Lens l := by
  obtain ⟨a0, len, cap, rfl⟩ := okWide_slice Tryz.underlying25 hv
  obtain ⟨fuel, hf⟩ := h
  obtain ⟨a, n, c, l, hcs, hr, ht, hz, hd, hL⟩ := open_frsL fuel _ _ hf
  simp [Value.cells] at hcs
  obtain ⟨rfl, rfl, rfl⟩ := hcs
  exact ⟨l, hr, ht, fun n c h => by cases h; exact hz rfl, hd, hL fun n hn => by simpa using List.all_eq_true.1 hsz _ (DataW.weights_mem_each htj hdj n hn)⟩
end
end Go.Proofs.YtopbmndjnjnmcaaGreatDoor
namespace Go.Proofs.YtopbmndjnjnmcaaGreatDoor
open Go.RowKit Lx Go.Sort
/- (L1) -/
attribute [local go_sem] Oper.semAt_some
theorem alikeF_dep (loose : Bool) : ∀ (n : Nat) (a l : List Fr), fsz a < n → alikeF loose a l = true → dep a = dep l
  | 0, _, _, h, _ => absurd h (Nat.not_lt_zero _)
  | n + 1, [], [], _, _ => rfl
  | n + 1, [], g :: r2, _, h => by cases g; simp [alikeF] at h
  | n + 1, f :: r, [], _, h => by cases f; simp [alikeF] at h
  | n + 1, f :: r, g :: r2, hn, h => by
    rw [fsz_cons] at hn
    rw [alikeF_cons] at h
    simp only [Bool.and_eq_true, beq_iff_eq] at h
    obtain ⟨_, h2, h3, h4⟩ := h
    rw [dep_cons, dep_cons, h2, alikeF_dep loose n _ _ (by omega) h3, alikeF_dep loose n _ _ (by omega) h4]
theorem sameP_both (l l2 : List Fr) : sameP l l2 = (decide (depthP l ≤ 100) && (decide (depthP l2 ≤ 100) && alikeF true l l2)) := by
  unfold sameP
  cases h : alikeF true l l2 with
  | false => simp
  | true =>
    have hd := alikeF_dep true (fsz l + 1) l l2 (Nat.lt_succ_self _) h
    have h1 := depthP_dep l
    have h2 := depthP_dep l2
    rw [hd] at h1
    rw [h1, h2]; simp
set_option maxRecDepth 100000 in
set_option maxHeartbeats 4000000 in
/-- **Same** of the reference -/
theorem refSame_any (S S2 : Nat → Prop) (l l2 : List Fr) (v v2 : Value) (w : World) (hr : FrRead w S v l) (hr2 : FrRead w S2 v2 l2) :
    Calls Tryz.prog 33 #[v, v2] w fun e W => e = .returned (.bool (sameP l l2)) ∧ Below w.heap.size w W := by
  have HR := Lib.hid hr
  have HR2 := Lib.hid hr2
  obtain ⟨va, vc, _, _, rfl, _⟩ := hr
  obtain ⟨ua, uc, _, _, rfl, _⟩ := hr2
  obtain ⟨res, hres⟩ : ∃ res, sameP l l2 = res := ⟨_, rfl⟩
  rw [hres]
  rw [sameP_both] at hres
  by_cases h1 : depthP l ≤ 100
  case neg =>
    have k1 : decide ((depthP l : Int) ≤ 100) = false := decide_eq_false (by omega)
    obtain rfl : false = res := by rw [← hres, decide_eq_false h1]; rfl
    clear hres
    go_enter Tryz.func33, Tryz.ntmps33
    go_wp2_with fail
    go_at_call 24
    refine (refDepth_any S l _ _ HR.out).mono ?_
    rintro e W1 ⟨rfl, hb⟩
    have B1 := Lib.hid hb
    clear hb
    go_wp2_with fail
    go_ret
    exact ⟨rfl, B1.out⟩
  case pos =>
  have k1 : decide ((depthP l : Int) ≤ 100) = true := decide_eq_true (by omega)
  rw [decide_eq_true h1, Bool.true_and] at hres
  by_cases h2 : depthP l2 ≤ 100
  case neg =>
    have k2 : decide ((depthP l2 : Int) ≤ 100) = false := decide_eq_false (by omega)
    obtain rfl : false = res := by rw [← hres, decide_eq_false h2]; rfl
    clear hres
    go_enter Tryz.func33, Tryz.ntmps33
    go_wp2_with fail
    go_at_call 24
    refine (refDepth_any S l _ _ HR.out).mono ?_
    rintro e W1 ⟨rfl, hb⟩
    have B1 := Lib.hid hb
    clear hb
    go_wp2_with fail
    go_at_call 24
    refine (refDepth_any S2 l2 _ _ (HR2.out.bl B1.out)).mono ?_
    rintro e W2 ⟨rfl, hb⟩
    have B2 := Lib.hid (B1.out.trans (hb.mono B1.out.size))
    clear hb
    go_wp2_with fail
    go_ret
    exact ⟨rfl, B2.out⟩
  case pos =>
  have k2 : decide ((depthP l2 : Int) ≤ 100) = true := decide_eq_true (by omega)
  rw [decide_eq_true h2, Bool.true_and] at hres
  have HRS := Lib.hid hres
  clear hres
  go_enter Tryz.func33, Tryz.ntmps33
  go_wp2_with fail
  go_at_call 24
  refine (refDepth_any S l _ _ HR.out).mono ?_
  rintro e W1 ⟨rfl, hb⟩
  have B1 := Lib.hid hb
  clear hb
  go_wp2_with fail
  go_at_call 24
  refine (refDepth_any S2 l2 _ _ (HR2.out.bl B1.out)).mono ?_
  rintro e W2 ⟨rfl, hb⟩
  have B2 := Lib.hid (B1.out.trans (hb.mono B1.out.size))
  clear hb
  go_wp2_with fail
  go_at_call 20
  refine (alikeG_any S S2 true (fsz l + 1) l l2 _ _ _ (Nat.lt_succ_self _) (HR.out.bl B2.out) (HR2.out.bl B2.out)).mono ?_
  rintro e W3 ⟨rfl, hb⟩
  rw [HRS.out]
  have B3 := Lib.hid (B2.out.trans (hb.mono B2.out.size))
  clear hb
  go_wp2_with fail
  go_ret
  exact ⟨rfl, B3.out⟩
end Go.Proofs.YtopbmndjnjnmcaaGreatDoor
namespace Go.Proofs.YtopbmndjnjnmcaaGreatDoor
open Go.RowKit Lx Go.Sort
/- (L2) -/
attribute [local go_sem] Oper.semAt_some
set_option maxRecDepth 100000 in
set_option maxHeartbeats 4000000 in
/-- slices.Clone of fragments -/
theorem sClone_any (S : Nat → Prop) (l : List Fr) (v : Value) (w : World) (hr : FrRead w S v l) (hl : l.length * 88 ≤ 140737488355328) :
    Calls Tryz.prog 94 #[v] w fun e W => ∃ a n c xs, e = .returned (.slice a n c) ∧ W.ownsRow w.heap.size 52 7 (.slice a n c) l.length xs ∧ KidsC W S l xs ∧ Below w.heap.size w W := by
  obtain ⟨i0, hi0, hz0, hz1, hz2⟩ := info_parts info52
  obtain ⟨va, vc, vg, vo, rfl, ⟨hm1, hm2⟩, ha, hat⟩ := hr
  obtain ⟨xs, hx1, hx2⟩ := hat.cells
  have hxl := hx1.len
  cases va with
  | none =>
    have hl0 : l = [] := Classical.byContradiction fun h => by have := ha h; cases this
    subst hl0
    have q25 : ∀ (w : World) (a : Option Addr) (n c n' c' : Nat), (binOp .eql 25 (.slice a n c) (.slice none n' c')).run Tryz.prog w = .ok (.bool a.isNone) w := fun w a n c n' c' => Lib.run_eql_slice_nil w _ _ a n c n' c' Tryz.underlying25
    go_enter Tryz.func94, Tryz.ntmps94
    go_wp2_with fail
    go_ret
    exact ⟨none, 0, 0, [], rfl, World.ownsRow_nil _ _ _ _, rfl, Below.refl _ _⟩
  | some ad =>
    have hnews : ∀ j u, xs[j]? = some u → w.cell? (ad.add j) = some u := fun j u hj => by
      by_cases h0 : l = []
      · subst h0
        rw [List.eq_nil_of_length_eq_zero (l := xs) (by simpa using hxl)] at hj
        cases hj
      · cases ha h0
        rw [Addr.add_lit]
        exact hx2 j u hj
    have q25 : ∀ (w : World) (a : Option Addr) (n c n' c' : Nat), (binOp .eql 25 (.slice a n c) (.slice none n' c')).run Tryz.prog w = .ok (.bool a.isNone) w := fun w a n c n' c' => Lib.run_eql_slice_nil w _ _ a n c n' c' Tryz.underlying25
    have HN := Lib.hid hnews
    have HX := Lib.hid hx1
    have HXL := Lib.hid hxl
    have HL := Lib.hid hl
    have HM := Lib.hid hm1
    clear hnews hx1 hx2 hxl hl hm1 hm2 ha hat
    go_enter Tryz.func94, Tryz.ntmps94
    go_wp2_with (at_builtin; refine wpList_append_own _ rfl _ _ 25 rfl w.heap.size 52 i0 _ 7 88 Tryz.underlying25 hi0 hz0 hz1 hz2 rfl (by decide) _ _ _ rfl (World.ownsRow_made w #[] 0 (Nat.le_refl _) (Nat.zero_le _) rfl) ad l.length vc xs rfl ?qc1 ?qc2 ?qc3 ?qc4 ?qc5 ?qc6 ?_)
    case qc1 => exact HXL.out
    case qc2 => exact fun j u hj => Lib.cell?_alloc_some _ (HN.out j u hj)
    case qc3 => exact HX.out.one
    case qc4 => have := HM.out; omega
    case qc5 => have := HL.out; omega
    case qc6 => simp
    intro v' w1 hown hgrow hnil
    obtain ⟨n9, c9, rfl⟩ := own_form' hown
    have HO := Lib.hid hown
    have HG := Lib.hid hgrow
    clear hown hgrow hnil
    go_wp2
    go_ret
    refine ⟨_, _, _, xs, rfl, by simpa using HO.out, ?_, ?_⟩
    · exact HX.out.keep fun b _ hlt => ⟨(((Below.refl _ w).alloc (Nat.le_refl _) _).grown HG.out (by simp) (by intro k hk; simp [Value.ownBlock] at hk; omega)).block b hlt, by assumption⟩
    · exact ((Below.refl _ w).alloc (Nat.le_refl _) _).grown HG.out (by simp) (by intro k hk; simp [Value.ownBlock] at hk; omega)
end Go.Proofs.YtopbmndjnjnmcaaGreatDoor
namespace Go.Proofs.YtopbmndjnjnmcaaGreatDoor
open Go.RowKit Lx Go.Sort
/- (L3) -/
attribute [local go_sem] Oper.semAt_some
theorem own_at {W : World} {base e size n g cap : Nat} {xs : List Value} (h : W.ownsRow base e size (.slice (some ⟨g, 0, none⟩) n cap) n xs) {j : Nat} {u : Value} (hj : xs[j]? = some u) : W.cell? ⟨g, j, none⟩ = some u := by
  obtain ⟨hlen, ⟨h0, _⟩ | ⟨g', cap', cur, hv, hb, ho, hc, hm, hz, ht⟩⟩ := h
  · cases h0
  · cases hv
    simp only [World.cell?, ho]
    rw [← ht, List.getElem?_take] at hj
    split at hj
    · simpa using hj
    · cases hj
/-- A clone of a list: all of it is new, and what lies inside lies in other blocks than the list itself. -/
def CloneV (w : World) (l : List Fr) (e : Ending) (W : World) : Prop :=
  ∃ a c xs, e = .returned (.slice a l.length c) ∧ W.ownsRow w.heap.size 52 7 (.slice a l.length c) l.length xs ∧
    KidsC W (fun b => w.heap.size ≤ b ∧ (Value.slice a l.length c).ownBlock ≠ some b) l xs ∧ Below w.heap.size w W
/-- What the loop of clone holds. -/
structure CloI (w : World) (V : Value) (g : Nat) (l : List Fr) (k : Nat) (xs ys zs : List Value) (W : World) : Prop where
  cut : xs = ys ++ zs
  own : W.ownsRow w.heap.size 52 7 V l.length xs
  done : KidsC W (fun b => w.heap.size ≤ b ∧ b ≠ g) (l.take k) ys
  left : KidsC W (fun b => b < w.heap.size) (l.drop k) zs
  bel : Below w.heap.size w W
theorem CloI.step {w W W3 : World} {g cap k : Nat} {l : List Fr} {f : Fr} {xs ys zs : List Value} {V2 : Value} (h : CloI w (.slice (some ⟨g, 0, none⟩) l.length cap) g l k xs ys zs W) (hf : l[k]? = some f) (hb : Below W.heap.size W W3)
    (hg : w.heap.size ≤ g) (hv : FrRead W3 (fun b => w.heap.size ≤ b ∧ b ≠ g) V2 f.kids) :
    ∃ xs' ys' zs', CloI w (.slice (some ⟨g, 0, none⟩) l.length cap) g l (k + 1) xs' ys' zs' (W3.setCell ⟨g, k * 7 + 6, none⟩ V2) := by
  have hkl : k < l.length := (List.getElem?_eq_some_iff.1 hf).1
  have hl2 := h.left
  rw [List.drop_eq_getElem_cons hkl, (List.getElem?_eq_some_iff.1 hf).2] at hl2
  obtain ⟨kv, r, hz, _, hr⟩ := hl2
  have hyl := h.done.len
  rw [List.length_take, Nat.min_eq_left (Nat.le_of_lt hkl)] at hyl
  have hw : w.heap.size ≤ W.heap.size := h.bel.size
  have keep : ∀ b, b < W.heap.size → b ≠ g → (W3.setCell ⟨g, k * 7 + 6, none⟩ V2).heap[b]? = W.heap[b]? := fun b h1 h2 => ((grown_set W3 g (k * 7 + 6) V2).block b (Nat.lt_of_lt_of_le h1 hb.size) (by simpa using h2)).trans (hb.block b h1)
  obtain ⟨hst, hgr⟩ := (owns_bl' h.own hb).stored (k * 7 + 6) V2
  refine ⟨_, ys ++ frC f.tok f.op V2, r, ⟨?_, hst, ?_, ?_, ?_⟩⟩
  · rw [h.cut, hz, List.set_append_right _ _ (by omega), hyl]
    simp [frC]
  · rw [List.take_add_one, hf]
    refine KidsC.add ?_ (h.done.keep fun b hs hlt => ⟨keep b hlt hs.2, hs⟩)
    exact hv.keep fun b hs hlt => ⟨(grown_set W3 g (k * 7 + 6) V2).block b hlt (by simpa using hs.2), hs⟩
  · exact hr.keep fun b hs hlt => ⟨keep b hlt (by omega), hs⟩
  · exact below_grown (h.bel.trans (hb.mono hw)) (Nat.le_refl _) hgr (fun j e => by cases e; exact hg)
set_option maxRecDepth 100000 in
set_option maxHeartbeats 16000000 in
/-- **clone** -/
theorem clone_any (S : Nat → Prop) : ∀ (n : Nat) (l : List Fr) (v : Value) (w : World), fsz l < n → FrRead w S v l → Lens l →
    Calls Tryz.prog 63 #[v] w fun e W => CloneV w l e W := by
  intro n
  induction n generalizing S with
  | zero => intro l v w h; omega
  | succ n ih =>
    intro l v w hn hr hl
    have HR := Lib.hid hr
    have HL := Lib.hid hl
    have HC := Lib.hid (sClone_any (fun b => b < w.heap.size) l v w (hr.keep fun b _ hlt => ⟨rfl, hlt⟩) hl.1)
    have hm : l.length ≤ maxLen := by obtain ⟨_, _, _, _, _, h, _⟩ := hr; exact h.1
    unfold maxLen at hm
    obtain ⟨va, vc, _, _, rfl, h9⟩ := hr
    clear hl h9
    go_enter Tryz.func63, Tryz.ntmps63
    go_wp2_with fail
    go_at_call 94
    refine HC.out.mono ?_
    rintro e W1 ⟨a, n1, c, xs, rfl, hown, hk, hb⟩
    obtain rfl : n1 = l.length := by obtain ⟨_, ⟨h, h0⟩ | ⟨_, _, _, h, _⟩⟩ := hown <;> cases h <;> simp_all
    have HO := Lib.hid hown
    have HK := Lib.hid hk
    have HB := Lib.hid hb
    clear hown hk hb HC
    go_wp2_with fail
    go_loopw [10] (fun x wr => ∃ k : Nat, k ≤ l.length ∧ x = .int .i64 k ∧ Hid (∃ xs ys zs g, (l ≠ [] → (Value.slice a l.length c).ownBlock = some g) ∧ CloI w (.slice a l.length c) g l k xs ys zs wr)) (fun x _ => l.length - (intOf x).toNat)
    case atStart =>
      refine ⟨0, by omega, rfl, Lib.hid ?_⟩
      have hk0 : KidsC W1 (fun b => b < w.heap.size) (l.drop 0) xs := by rw [List.drop_zero]; exact HK.out
      by_cases h0 : l = []
      · exact ⟨xs, [], xs, 0, fun h => absurd h0 h, rfl, HO.out, by rw [List.take_zero]; rfl, hk0, HB.out⟩
      · obtain ⟨g, hg⟩ : ∃ g, (Value.slice a l.length c).ownBlock = some g := by
          obtain ⟨_, ⟨h, h1⟩ | ⟨g, _, _, h, _⟩⟩ := HO.out
          · exact absurd (List.eq_nil_of_length_eq_zero h1) h0
          · rw [h]; exact ⟨g, rfl⟩
        exact ⟨xs, [], xs, g, fun _ => hg, rfl, HO.out, by rw [List.take_zero]; rfl, hk0, HB.out⟩
    case round =>
      obtain ⟨k, hk, rfl, HI⟩ := hrel
      by_cases hlt : k < l.length
      · obtain ⟨f, hf⟩ : ∃ f, l[k]? = some f := ⟨_, List.getElem?_eq_getElem hlt⟩
        have k1 : (k : Int) < (l.length : Int) := by omega
        obtain ⟨xs2, ys, zs, g, hgo, hci⟩ := HI.out
        have hl0 : l ≠ [] := by intro h; rw [h] at hlt; simp at hlt
        have hgl : w.heap.size ≤ g := (owned_cells hci.own (hgo hl0)).1
        obtain rfl : a = some ⟨g, 0, none⟩ := by
          have hv := hgo hl0
          obtain ⟨_, ⟨h, h1⟩ | ⟨g', _, _, h, _⟩⟩ := hci.own
          · rw [h] at hv; cases hv
          · cases h; cases hv; rfl
        clear hgo HO HK HI
        have hl2 := hci.left
        rw [List.drop_eq_getElem_cons hlt, (List.getElem?_eq_some_iff.1 hf).2] at hl2
        obtain ⟨kv, r, hz, hkv, _⟩ := hl2
        have hyl := hci.done.len
        rw [List.length_take, Nat.min_eq_left (Nat.le_of_lt hlt)] at hyl
        have hx : ∀ i u, (frC f.tok f.op kv)[i]? = some u → wr.cell? ⟨g, k * 7 + i, none⟩ = some u := fun i u hi => by
          refine own_at hci.own ?_
          rw [hci.cut, List.getElem?_append_right (by omega), hz, hyl, show k * 7 + i - k * 7 = i by omega, List.getElem?_append_left (by exact (List.getElem?_eq_some_iff.1 hi).1)]
          exact hi
        have c0 := hx 0 _ rfl
        have c1 := hx 1 _ rfl
        have c2 := hx 2 _ rfl
        have c3 := hx 3 _ rfl
        have c4 := hx 4 _ rfl
        have c5 := hx 5 _ rfl
        have c6 := hx 6 _ rfl
        rw [Nat.add_zero] at c0
        obtain ⟨ka, kc, hkf⟩ : ∃ a c, kv = .slice a f.kids.length c := by obtain ⟨a, c, _, _, h, _⟩ := hkv; exact ⟨a, c, h⟩
        subst hkf
        have HCI := Lib.hid hci
        have HKV := Lib.hid hkv
        have hg0 : g < wr.heap.size := by obtain ⟨_, cs, hcs⟩ := owned_cells hci.own (b := g) rfl; exact (Array.getElem?_eq_some_iff.1 hcs).1
        have HG0 := Lib.hid hg0
        clear hci hkv hx hz hyl
        have hfn : fsz f.kids < n := by have := fsz_kids hf; omega
        have HLF := Lib.hid (LensK.at HL.out.2 hf)
        go_wp2_with fail
        go_at_call 63
        have hba := (Below.refl wr.heap.size wr).alloc (Nat.le_refl _) (.cells #[.int .i64 f.tok.kind, .int .i64 f.tok.num, .string f.tok.text, .int .i64 f.tok.at_, .int .i64 f.tok.mark, .string f.op, .slice ka f.kids.length kc] 52)
        have hsa : (wr.alloc (.cells #[.int .i64 f.tok.kind, .int .i64 f.tok.num, .string f.tok.text, .int .i64 f.tok.at_, .int .i64 f.tok.mark, .string f.op, .slice ka f.kids.length kc] 52)).heap.size = wr.heap.size + 1 := World.size_alloc _ _
        refine (ih (fun b => b < w.heap.size) f.kids _ _ hfn (HKV.out.bl hba) HLF.out).mono ?_
        rintro e W3 ⟨a3, c3', xs3, rfl, hown3, hk3, hb3⟩
        have hw0 : w.heap.size ≤ wr.heap.size := HCI.out.bel.size
        have hbe : Below wr.heap.size wr W3 := hba.trans (hb3.mono hba.size)
        have hrd : FrRead W3 (fun b => w.heap.size ≤ b ∧ b ≠ g) (.slice a3 f.kids.length c3') f.kids :=
          kids_read hown3 rfl hk3 (fun b hb _ => ⟨by have := hb.1; omega, by have := hb.1; omega⟩) (fun b hb => by have := (owned_cells hown3 hb).1; exact ⟨by omega, by omega⟩)
        have c6' := (hbe.cell (p := ⟨g, k * 7 + 6, none⟩) hg0).trans c6
        have hfz : W3.frozen? ⟨g, k * 7 + 6, none⟩ = false := (owns_bl' HCI.out.own hbe).frozenAt _
        have HST := Lib.hid (HCI.out.step hf hbe hgl hrd)
        clear hba hsa hown3 hk3 hb3 hbe hrd HCI HKV
        go_wp2_with fail
        go_roundw
        case rel =>
          obtain ⟨xs', ys', zs', h⟩ := HST.out
          exact ⟨k + 1, by omega, by go_num, Lib.hid ⟨xs', ys', zs', g, fun _ => rfl, h⟩⟩
        case measure => simp [intOf]; omega
      · obtain rfl : k = l.length := by omega
        obtain ⟨xs2, ys, zs, g, hgo, hci⟩ := HI.out
        have hz := hci.left
        rw [List.drop_length] at hz
        have hd := hci.done
        rw [List.take_length] at hd
        have hx := hci.cut
        rw [show zs = [] from hz, List.append_nil] at hx
        subst hx
        have HD : Hid (CloneV w l (.returned (.slice a l.length c)) wr) := Lib.hid ⟨a, c, xs2, rfl, hci.own, by
          by_cases h0 : l = []
          · subst h0; exact (List.eq_nil_of_length_eq_zero (by simpa using hd.len))
          · rw [hgo h0]
            exact hd.keep fun b hs _ => ⟨rfl, hs.1, by simpa using fun e => hs.2 e.symm⟩, hci.bel⟩
        clear hgo hci hz hd HI
        go_wp2_with fail
        go_ret
        exact HD.out
end Go.Proofs.YtopbmndjnjnmcaaGreatDoor
namespace Go.Proofs.YtopbmndjnjnmcaaGreatDoor
open Go.RowKit Lx Go.Sort
/- (L4) -/
attribute [local go_sem] Oper.semAt_some
/-- A list of fragments that a call owns. -/
def OwnL (base : Nat) (l : List Fr) (v : Value) (W : World) : Prop :=
  ∃ xs, W.ownsRow base 52 7 v l.length xs ∧ KidsC W (fun b => v.ownBlock ≠ some b) l xs
theorem OwnL.nil (base : Nat) (W : World) : OwnL base [] (.slice none 0 0) W := ⟨[], World.ownsRow_nil _ _ _ _, rfl⟩
theorem OwnL.bl {base : Nat} {l : List Fr} {v : Value} {W W' : World} (h : OwnL base l v W) (hb : Below W.heap.size W W') : OwnL base l v W' := by
  obtain ⟨xs, h1, h2⟩ := h
  exact ⟨xs, owns_bl' h1 hb, h2.keep fun b hs hlt => ⟨hb.block b hlt, hs⟩⟩
theorem OwnL.form {base : Nat} {l : List Fr} {v : Value} {W : World} (h : OwnL base l v W) : ∃ a c, v = .slice a l.length c := by
  obtain ⟨xs, ⟨_, ⟨h, h0⟩ | ⟨g, cap, _, h, _⟩⟩, _⟩ := h
  · exact ⟨none, 0, by rw [h, h0]⟩
  · exact ⟨_, _, h⟩
theorem OwnL.add {base : Nat} {l l2 : List Fr} {v v' : Value} {w w' : World} {xs news : List Value} (hk : KidsC w (fun b => v.ownBlock ≠ some b) l xs) (hk2 : KidsC w (fun b => v.ownBlock ≠ some b) l2 news)
    (hown : w'.ownsRow base 52 7 v' (l.length + l2.length) (xs ++ news)) (hg : w.grownBy w' v.ownBlock) (hat : v'.ownBlock = v.ownBlock ∨ v'.ownBlock = some w.heap.size) : OwnL base (l ++ l2) v' w' := by
  refine ⟨xs ++ news, by rw [List.length_append]; exact hown, ?_⟩
  refine (hk.app hk2).keep fun b hs hlt => ⟨hg.block b hlt (fun e => hs e.symm), ?_⟩
  rcases hat with h | h
  · rw [h]; exact hs
  · rw [h]; intro e; cases e; omega
theorem OwnL.read {base : Nat} {l : List Fr} {v : Value} {W : World} (h : OwnL base l v W) : FrRead W (fun _ => True) v l := by
  obtain ⟨xs, h1, h2⟩ := h
  exact kids_read h1 rfl h2 (fun _ _ _ => trivial) (fun _ _ => trivial)
/-- What stands between two pieces. -/
def sepF (s : ByteArray) : Fr := .mk ⟨5, 0, s, 0, 0⟩ ⟨#[]⟩ []
/-- The first pieces, with a sign between two of them. -/
def joinK (s : ByteArray) (ps : List (List Fr)) : Nat → List Fr
  | 0 => []
  | k + 1 => (joinK s ps k ++ if k = 0 then [] else [sepF s]) ++ ps.getD k []
theorem joinK_mono (s : ByteArray) (ps : List (List Fr)) (k : Nat) : ∀ j, (joinK s ps k).length ≤ (joinK s ps (k + j)).length
  | 0 => Nat.le_refl _
  | j + 1 => by
    have := joinK_mono s ps k j
    rw [show k + (j + 1) = (k + j) + 1 by omega, joinK, List.length_append, List.length_append]
    omega
/-- Pieces in memory. -/
def PcRead (W : World) (S : Nat → Prop) (v : Value) (ps : List (List Fr)) : Prop :=
  ∃ a c, v = .slice a ps.length c ∧ ps.length ≤ maxLen ∧
    ∀ k p, ps[k]? = some p → ∃ g o kv, a = some ⟨g, o, none⟩ ∧ g < W.heap.size ∧ W.cell? ⟨g, o + k, none⟩ = some kv ∧ (∀ n c, kv = .slice none n c → c = 0) ∧ FrRead W S kv p
theorem PcRead.bl {W W' : World} {S : Nat → Prop} {v : Value} {ps : List (List Fr)} (h : PcRead W S v ps) (hb : Below W.heap.size W W') : PcRead W' S v ps := by
  obtain ⟨a, c, hv, hm, hp⟩ := h
  refine ⟨a, c, hv, hm, fun k p hk => ?_⟩
  obtain ⟨g, o, kv, ha, hg, hc, hn, hr⟩ := hp k p hk
  exact ⟨g, o, kv, ha, Nat.lt_of_lt_of_le hg hb.size, (hb.cell (p := ⟨g, o + k, none⟩) hg).trans hc, hn, hr.bl hb⟩
/-- Where the elements lie that are appended. -/
def Src (w : World) (v : Value) (l2 : List Fr) (ao : Option Addr) (c : Nat) : Prop :=
  (ao = none → c = 0 ∧ l2 = []) ∧ ∃ news, KidsC w (fun b => v.ownBlock ≠ some b) l2 news ∧ ∀ ad, ao = some ad → ∀ j u, news[j]? = some u → w.cell? (ad.add j) = some u
theorem Src.ofOwn {base : Nat} {W : World} {v : Value} {l2 : List Fr} {a : Option Addr} {c : Nat} {xs : List Value} {S : Nat → Prop} (hown : W.ownsRow base 52 7 (.slice a l2.length c) l2.length xs)
    (hk : KidsC W S l2 xs) (hS : ∀ b, S b → base ≤ b) (hv : ∀ b, v.ownBlock = some b → b < base) : Src W v l2 a c := by
  refine ⟨fun hn => ?_, xs, hk.keep fun b hs _ => ⟨rfl, fun e => by have := hv b e; have := hS b hs; omega⟩, fun ad had j u hj => ?_⟩
  · subst hn
    obtain ⟨_, ⟨h, h0⟩ | ⟨g, _, _, h, _⟩⟩ := hown
    · simp only [Value.slice.injEq] at h; exact ⟨h.2.2, List.eq_nil_of_length_eq_zero h0⟩
    · simp at h
  · subst had
    have hf : ad = ⟨ad.block, 0, none⟩ := by
      obtain ⟨_, ⟨h, h0⟩ | ⟨g, _, _, h, _⟩⟩ := hown
      · simp at h
      · simp only [Value.slice.injEq, Option.some.injEq] at h; rw [h.1]
    rw [hf] at hown ⊢
    rw [Addr.add_lit, Nat.zero_add]
    exact own_at hown hj
theorem OwnL.low {base : Nat} {l : List Fr} {v : Value} {W : World} (h : OwnL base l v W) : ∀ b, v.ownBlock = some b → b < W.heap.size := by
  obtain ⟨xs, h1, _⟩ := h
  intro b hb
  obtain ⟨_, cs, hcs⟩ := owned_cells h1 hb
  exact (Array.getElem?_eq_some_iff.1 hcs).1
theorem Src.sep (w : World) (v : Value) (s : ByteArray) (_hv : ∀ b, v.ownBlock = some b → b < w.heap.size) :
    Src (w.alloc (.cells #[.int .i64 5, .int .i64 0, .string s, .int .i64 0, .int .i64 0, .string ⟨#[]⟩, .slice none 0 0] 52)) v [sepF s] (some ⟨w.heap.size, 0, none⟩) 1 := by
  refine ⟨fun h => (by cases h), frC (sepF s).tok (sepF s).op (.slice none 0 0), ⟨.slice none 0 0, [], by simp, FrRead.nil _ _ _ _, rfl⟩, fun ad had => ?_⟩
  cases had
  exact World.news_of_block (cs := #[.int .i64 5, .int .i64 0, .string s, .int .i64 0, .int .i64 0, .string ⟨#[]⟩, .slice none 0 0]) (t := 52) (fr := (0, 0)) (heap_alloc_new w _)
set_option maxRecDepth 100000 in
/-- Fragments behind a list that the call owns. -/
theorem wpList_app {w : World} {ops : Array Oper} {rest : List Oper} {o : Oper} {a : Act} {Q : Exit → Act → World → Prop} (hgd : o.guard = none) (s x : Operand)
    (ho : o.op = .call { callee := .builtin .append, args := #[s, x], argTypes := #[25, 25] })
    (base : Nat) (v : Value) (l l2 : List Fr) (hs : a.eval s = v) (hown : OwnL base l v w) (ao : Option Addr) (c : Nat) (hx : a.eval x = .slice ao l2.length c) (hsrc : Src w v l2 ao c)
    (hbytes : (l.length + l2.length) * 88 ≤ 140737488355328) (hbase : base ≤ w.heap.size)
    (h : ∀ a' c' w', OwnL base (l ++ l2) (.slice a' (l.length + l2.length) c') w' → w.grownBy w' v.ownBlock → wpList Tryz.prog ops Q rest (a.put o.dst (.slice a' (l.length + l2.length) c')) w') :
    wpList Tryz.prog ops Q (o :: rest) a w := by
  obtain ⟨i0, hi0, hz0, hz1, hz2⟩ := info_parts info52
  obtain ⟨xs, h1, h2⟩ := hown
  obtain ⟨k1, news, k2, k3⟩ := hsrc
  cases ao with
  | none =>
    obtain ⟨rfl, rfl⟩ := k1 rfl
    refine wpList_append_own_none hgd s x 25 ho base 52 i0 7 Tryz.underlying25 hi0 v l.length xs hs h1 hx ?_
    have hf : ∃ a c, v = .slice a l.length c := OwnL.form ⟨xs, h1, h2⟩
    obtain ⟨a', c', rfl⟩ := hf
    exact h a' c' w (by rw [List.append_nil]; exact ⟨xs, h1, h2⟩) (World.grownBy.refl _ _)
  | some ad =>
    refine wpList_append_own_at _ hgd s x 25 ho base 52 i0 _ 7 88 Tryz.underlying25 hi0 hz0 hz1 hz2 rfl (by omega) v l.length xs hs h1 ad l2.length c news hx k2.len (k3 ad rfl) k2.one (by unfold maxLen; omega) hbytes hbase ?_
    intro v' w' g1 g2 _ g4
    have ho' := OwnL.add h2 k2 g1 g2 g4
    obtain ⟨a', c', rfl⟩ := ho'.form
    rw [List.length_append] at ho' ⊢
    exact h a' c' w' ho' g2
set_option maxRecDepth 100000 in
set_option maxHeartbeats 16000000 in
/-- **Join** -/
theorem fJoin_any (S : Nat → Prop) (ps : List (List Fr)) (s : ByteArray) (v : Value) (w : World) (hr : PcRead w S v ps) (hl : ∀ p ∈ ps, Lens p) (hb : (joinK s ps ps.length).length * 88 ≤ 140737488355328) :
    Calls Tryz.prog 37 #[v, .string s] w fun e W => ∃ v', e = .returned v' ∧ OwnL w.heap.size (joinK s ps ps.length) v' W ∧ Below w.heap.size w W := by
  obtain ⟨i0, hi0, hz0, hz1, hz2⟩ := info_parts info52
  have HR := Lib.hid hr
  have HL := Lib.hid hl
  have HB := Lib.hid hb
  obtain ⟨pa, pc, rfl, hm, h9⟩ := hr
  unfold maxLen at hm
  clear hl h9 hb
  go_enter Tryz.func37, Tryz.ntmps37
  go_wp2_with fail
  go_loopw [5, 10] (fun y x wr => ∃ k : Nat, k ≤ ps.length ∧ x = .int .i64 k ∧ (∃ a c, y = .slice a (joinK s ps k).length c) ∧ Hid (OwnL w.heap.size (joinK s ps k) y wr ∧ Below w.heap.size w wr)) (fun _ x _ => ps.length - (intOf x).toNat)
  case atStart => exact ⟨0, by omega, rfl, ⟨none, 0, rfl⟩, Lib.hid ⟨OwnL.nil _ _, Below.refl _ _⟩⟩
  case round =>
    obtain ⟨k, hk, rfl, ⟨ya, yc, rfl⟩, HI⟩ := hrel
    by_cases hlt : k < ps.length
    · obtain ⟨p, hp⟩ : ∃ p, ps[k]? = some p := ⟨_, List.getElem?_eq_getElem hlt⟩
      have k1 : (k : Int) < (ps.length : Int) := by omega
      obtain ⟨hown, hbel⟩ := HI.out
      obtain ⟨g, o, kv, hpa, hg, hc, _, hrd⟩ : ∃ g o kv, pa = some ⟨g, o, none⟩ ∧ g < w.heap.size ∧ w.cell? ⟨g, o + k, none⟩ = some kv ∧ (∀ n c, kv = .slice none n c → c = 0) ∧ FrRead w S kv p := by
        obtain ⟨a, c, hv, _, h⟩ := HR.out
        cases hv
        exact h k p hp
      subst hpa
      have hc' := (hbel.cell (p := ⟨g, o + k, none⟩) hg).trans hc
      have HP := Lib.hid hp
      have HRD := Lib.hid hrd
      have HLP := Lib.hid (HL.out p (List.mem_of_getElem? hp))
      obtain ⟨ka, kc, hkf⟩ : ∃ a c, kv = .slice a p.length c := by obtain ⟨a, c, _, _, h, _⟩ := hrd; exact ⟨a, c, h⟩
      subst hkf
      have hgd : ps.getD k [] = p := by rw [List.getD_eq_getElem?_getD, hp]; rfl
      have hst : joinK s ps (k + 1) = (joinK s ps k ++ if k = 0 then [] else [sepF s]) ++ p := by rw [joinK, hgd]
      have HST := Lib.hid hst
      have hle := joinK_mono s ps (k + 1) (ps.length - (k + 1))
      rw [show k + 1 + (ps.length - (k + 1)) = ps.length by omega] at hle
      have HLE : Hid ((joinK s ps (k + 1)).length * 88 ≤ 140737488355328) := Lib.hid (by have := HB.out; omega)
      clear hown hbel hc hrd hp hgd hst hle
      by_cases h0 : k = 0
      · subst h0
        rw [Nat.add_zero] at hc'
        have hj4 : joinK s ps 0 ++ p = joinK s ps 1 := by have := HST.out; simpa using this.symm
        have hj5 : (joinK s ps 0).length + p.length = (joinK s ps 1).length := by rw [← hj4, List.length_append]
        have HJ4 := Lib.hid hj4
        have HJ5 := Lib.hid hj5
        have HJ6 : Hid (((joinK s ps 0).length + p.length) * 88 ≤ 140737488355328) := Lib.hid (by rw [hj5]; exact HLE.out)
        clear hj4 hj5 HST HLE
        go_wp2_with fail
        go_at_call 63
        refine (clone_any S (fsz p + 1) p _ wr (Nat.lt_succ_self _) (HRD.out.bl HI.out.2) HLP.out).mono ?_
        rintro e W3 ⟨a3, c3', xs3, rfl, hown3, hk3, hb3⟩
        have HS3 : Hid (Src W3 (.slice ya (joinK s ps 0).length yc) p a3 c3') := Lib.hid (Src.ofOwn hown3 hk3 (fun b h => h.1) HI.out.1.low)
        have HO3 := Lib.hid (HI.out.1.bl hb3)
        have HB3 := Lib.hid (HI.out.2.trans (hb3.mono HI.out.2.size))
        clear hown3 hk3 hb3
        go_wp2_with (at_builtin; refine wpList_app rfl _ _ rfl w.heap.size (.slice ya (joinK s ps 0).length yc) (joinK s ps 0) p (by rfl) HO3.out a3 c3' (by rfl) HS3.out ?qc5 ?qc6 ?_)
        case qc5 => exact HJ6.out
        case qc6 => exact HB3.out.size
        intro a4 c4 w4 g1 g2
        rw [HJ4.out, HJ5.out] at g1
        rw [HJ5.out]
        have HO4 := Lib.hid g1
        have HB4 := Lib.hid (below_grown HB3.out (Nat.le_refl _) g2 (fun b hb => by obtain ⟨xs, h, _⟩ := HO3.out; exact (owned_cells h hb).1))
        clear g1 g2
        go_wp2_with fail
        go_roundw
        case rel => exact ⟨1, by omega, by go_num, ⟨_, _, rfl⟩, Lib.hid ⟨HO4.out, HB4.out⟩⟩
        case measure => simp [intOf]; omega
      · obtain ⟨J, hJ⟩ : ∃ J, joinK s ps k ++ [sepF s] = J := ⟨_, rfl⟩
        have hj4 : J ++ p = joinK s ps (k + 1) := by rw [HST.out, if_neg h0, hJ]
        have hj5 : J.length + p.length = (joinK s ps (k + 1)).length := by rw [← hj4, List.length_append]
        have hj9 : (joinK s ps k).length + 1 = J.length := by rw [← hJ, List.length_append]; rfl
        have HJ4 := Lib.hid hj4
        have HJ5 := Lib.hid hj5
        have HJ6 : Hid ((J.length + p.length) * 88 ≤ 140737488355328) := Lib.hid (by rw [hj5]; exact HLE.out)
        have HJ8 : Hid (((joinK s ps k).length + 1) * 88 ≤ 140737488355328) := Lib.hid (by rw [hj9]; have := HJ6.out; omega)
        have HJJ := Lib.hid hJ
        have HJ9 := Lib.hid hj9
        clear hj4 hj5 hj9 hJ HST HLE
        have d0 : decide ((k : Int) > 0) = true := decide_eq_true (by omega)
        have d1 : (0 : Int) < (k : Int) := by omega
        have hba := (Below.refl wr.heap.size wr).alloc (Nat.le_refl _) (.cells #[.int .i64 5, .int .i64 0, .string s, .int .i64 0, .int .i64 0, .string ⟨#[]⟩, .slice none 0 0] 52)
        have HS2 := Lib.hid (Src.sep wr (.slice ya (joinK s ps k).length yc) s HI.out.1.low)
        have HO2 := Lib.hid (HI.out.1.bl hba)
        have HB2 := Lib.hid (HI.out.2.trans (hba.mono HI.out.2.size))
        have HBA := Lib.hid hba
        clear hba
        go_wp2_with (at_builtin; refine wpList_app rfl _ _ rfl w.heap.size (.slice ya (joinK s ps k).length yc) (joinK s ps k) [sepF s] (by rfl) HO2.out _ 1 (by rfl) HS2.out ?qc5 ?qc6 ?_)
        case qc5 => exact HJ8.out
        case qc6 => exact HB2.out.size
        intro a4 c4 w4 g1 g2
        have g1 : OwnL w.heap.size J (.slice a4 J.length c4) w4 := by rw [← HJ9.out, ← HJJ.out]; exact g1
        rw [show (joinK s ps k).length + 1 = J.length from HJ9.out]
        have HO4 := Lib.hid g1
        have HB4 := Lib.hid (below_grown HB2.out (Nat.le_refl _) g2 (fun b hb => by obtain ⟨xs, h, _⟩ := HO2.out; exact (owned_cells h hb).1))
        have HRD4 : Hid (FrRead w4 S (.slice ka p.length kc) p) := Lib.hid (HRD.out.bl HB4.out)
        clear g1 g2
        go_wp2_with fail
        go_at_call 63
        refine (clone_any S (fsz p + 1) p _ w4 (Nat.lt_succ_self _) HRD4.out HLP.out).mono ?_
        rintro e W3 ⟨a3, c3', xs3, rfl, hown3, hk3, hb3⟩
        have HS3 : Hid (Src W3 (.slice a4 J.length c4) p a3 c3') := Lib.hid (Src.ofOwn hown3 hk3 (fun b h => h.1) HO4.out.low)
        have HO3 := Lib.hid (HO4.out.bl hb3)
        have HB3 := Lib.hid (HB4.out.trans (hb3.mono HB4.out.size))
        clear hown3 hk3 hb3
        go_wp2_with (at_builtin; refine wpList_app rfl _ _ rfl w.heap.size (.slice a4 J.length c4) J p (by rfl) HO3.out a3 c3' (by rfl) HS3.out ?qc7 ?qc8 ?_)
        case qc7 => exact HJ6.out
        case qc8 => exact HB3.out.size
        intro a5 c5 w5 g1 g2
        rw [HJ4.out, HJ5.out] at g1
        rw [HJ5.out]
        have HO5 := Lib.hid g1
        have HB5 := Lib.hid (below_grown HB3.out (Nat.le_refl _) g2 (fun b hb => by obtain ⟨xs, h, _⟩ := HO3.out; exact (owned_cells h hb).1))
        clear g1 g2
        go_wp2_with fail
        go_roundw
        case rel => exact ⟨k + 1, by omega, by go_num, ⟨_, _, rfl⟩, Lib.hid ⟨HO5.out, HB5.out⟩⟩
        case measure => simp [intOf]; omega
    · obtain rfl : k = ps.length := by omega
      go_wp2_with fail
      go_ret
      exact ⟨_, rfl, HI.out.1, HI.out.2⟩
end Go.Proofs.YtopbmndjnjnmcaaGreatDoor
namespace Go.Proofs.YtopbmndjnjnmcaaGreatDoor
open Go.RowKit Lx Go.Sort
/- (L5) -/
attribute [local go_sem] Oper.semAt_some
theorem Src.arg {w0 W : World} {base : Nat} {S : Nat → Prop} {p l : List Fr} {v : Value} {a : Option Addr} {c : Nat} (hr : FrRead w0 S (.slice a p.length c) p) (hn : a = none → c = 0) (hb : Below w0.heap.size w0 W) (hbase : w0.heap.size ≤ base) (hown : OwnL base l v W) : Src W v p a c := by
  obtain ⟨a', c', g, o, hv, hm, ha, hat⟩ := hr
  cases hv
  obtain ⟨xs, k1, k2⟩ := (hat.keep (S' := fun b => b < w0.heap.size) fun b _ hlt => ⟨rfl, hlt⟩).cells
  obtain ⟨ys, h1, _⟩ := hown
  refine ⟨fun h => ⟨hn h, Classical.byContradiction fun h0 => by have := ha h0; rw [h] at this; cases this⟩, xs, k1.keep fun b hs hlt => ⟨hb.block b hlt, fun e => ?_⟩, fun ad had j u hj => ?_⟩
  · have := (owned_cells h1 e).1; omega
  · have h0 : p ≠ [] := fun h => by
      subst h
      rw [List.eq_nil_of_length_eq_zero (l := xs) (by simpa using k1.len)] at hj
      cases hj
    have := ha h0
    rw [had] at this
    cases this
    rw [Addr.add_lit]
    have hg : g < w0.heap.size := by
      cases hp : p with
      | nil => exact absurd hp h0
      | cons f r => rw [hp] at hat; cases hat; assumption
    exact (hb.cell (p := ⟨g, o + j, none⟩) hg).trans (k2 j u hj)
set_option maxRecDepth 100000 in
set_option maxHeartbeats 16000000 in
/-- **Join** of the reference -/
theorem rJoinL_any (S : Nat → Prop) (ps : List (List Fr)) (s : ByteArray) (v : Value) (w : World) (hr : PcRead w S v ps) (hb : (joinK s ps ps.length).length * 88 ≤ 140737488355328) :
    Calls Tryz.prog 38 #[v, .string s] w fun e W => ∃ v', e = .returned v' ∧ OwnL w.heap.size (joinK s ps ps.length) v' W ∧ Below w.heap.size w W := by
  obtain ⟨i0, hi0, hz0, hz1, hz2⟩ := info_parts info52
  have HR := Lib.hid hr
  have HB := Lib.hid hb
  obtain ⟨pa, pc, rfl, hm, h9⟩ := hr
  unfold maxLen at hm
  clear h9 hb
  go_enter Tryz.func38, Tryz.ntmps38
  go_wp2_with fail
  go_loopw [5, 6] (fun y x wr => ∃ k : Nat, k ≤ ps.length ∧ x = .int .i64 k ∧ (∃ a c, y = .slice a (joinK s ps k).length c) ∧ Hid (OwnL w.heap.size (joinK s ps k) y wr ∧ Below w.heap.size w wr)) (fun _ x _ => ps.length - (intOf x).toNat)
  case atStart => exact ⟨0, by omega, rfl, ⟨none, 0, rfl⟩, Lib.hid ⟨OwnL.nil _ _, Below.refl _ _⟩⟩
  case round =>
    obtain ⟨k, hk, rfl, ⟨ya, yc, rfl⟩, HI⟩ := hrel
    by_cases hlt : k < ps.length
    · obtain ⟨p, hp⟩ : ∃ p, ps[k]? = some p := ⟨_, List.getElem?_eq_getElem hlt⟩
      have k1 : (k : Int) < (ps.length : Int) := by omega
      obtain ⟨hown, hbel⟩ := HI.out
      obtain ⟨g, o, kv, hpa, hg, hc, hn, hrd⟩ : ∃ g o kv, pa = some ⟨g, o, none⟩ ∧ g < w.heap.size ∧ w.cell? ⟨g, o + k, none⟩ = some kv ∧ (∀ n c, kv = .slice none n c → c = 0) ∧ FrRead w S kv p := by
        obtain ⟨a, c, hv, _, h⟩ := HR.out
        cases hv
        exact h k p hp
      subst hpa
      have hc' := (hbel.cell (p := ⟨g, o + k, none⟩) hg).trans hc
      have HP := Lib.hid hp
      have HRD := Lib.hid hrd
      obtain ⟨ka, kc, hkf⟩ : ∃ a c, kv = .slice a p.length c := by obtain ⟨a, c, _, _, h, _⟩ := hrd; exact ⟨a, c, h⟩
      subst hkf
      have hgd : ps.getD k [] = p := by rw [List.getD_eq_getElem?_getD, hp]; rfl
      have hst : joinK s ps (k + 1) = (joinK s ps k ++ if k = 0 then [] else [sepF s]) ++ p := by rw [joinK, hgd]
      have HST := Lib.hid hst
      have hle := joinK_mono s ps (k + 1) (ps.length - (k + 1))
      rw [show k + 1 + (ps.length - (k + 1)) = ps.length by omega] at hle
      have HLE : Hid ((joinK s ps (k + 1)).length * 88 ≤ 140737488355328) := Lib.hid (by have := HB.out; omega)
      have HC0 := Lib.hid hc
      have HN : Hid (ka = none → kc = 0) := Lib.hid (fun h => hn p.length kc (by rw [h]))
      clear hown hbel hc hrd hp hgd hst hle hn
      by_cases h0 : k = 0
      · subst h0
        rw [Nat.add_zero] at hc'
        have hj4 : joinK s ps 0 ++ p = joinK s ps 1 := by have := HST.out; simpa using this.symm
        have hj5 : (joinK s ps 0).length + p.length = (joinK s ps 1).length := by rw [← hj4, List.length_append]
        have HJ4 := Lib.hid hj4
        have HJ5 := Lib.hid hj5
        have HJ6 : Hid (((joinK s ps 0).length + p.length) * 88 ≤ 140737488355328) := Lib.hid (by rw [hj5]; exact HLE.out)
        clear hj4 hj5 HST HLE
        have HS3 : Hid (Src wr (.slice ya (joinK s ps 0).length yc) p ka kc) := Lib.hid (Src.arg HRD.out HN.out HI.out.2 (Nat.le_refl _) HI.out.1)
        have HO3 := Lib.hid HI.out.1
        have HB3 := Lib.hid HI.out.2
        go_wp2_with (at_builtin; refine wpList_app rfl _ _ rfl w.heap.size (.slice ya (joinK s ps 0).length yc) (joinK s ps 0) p (by rfl) HO3.out ka kc (by rfl) HS3.out ?qc5 ?qc6 ?_)
        case qc5 => exact HJ6.out
        case qc6 => exact HB3.out.size
        intro a4 c4 w4 g1 g2
        rw [HJ4.out, HJ5.out] at g1
        rw [HJ5.out]
        have HO4 := Lib.hid g1
        have HB4 := Lib.hid (below_grown HB3.out (Nat.le_refl _) g2 (fun b hb => by obtain ⟨xs, h, _⟩ := HO3.out; exact (owned_cells h hb).1))
        clear g1 g2
        go_wp2_with fail
        go_roundw
        case rel => exact ⟨1, by omega, by go_num, ⟨_, _, rfl⟩, Lib.hid ⟨HO4.out, HB4.out⟩⟩
        case measure => simp [intOf]; omega
      · obtain ⟨J, hJ⟩ : ∃ J, joinK s ps k ++ [sepF s] = J := ⟨_, rfl⟩
        have hj4 : J ++ p = joinK s ps (k + 1) := by rw [HST.out, if_neg h0, hJ]
        have hj5 : J.length + p.length = (joinK s ps (k + 1)).length := by rw [← hj4, List.length_append]
        have hj9 : (joinK s ps k).length + 1 = J.length := by rw [← hJ, List.length_append]; rfl
        have HJ4 := Lib.hid hj4
        have HJ5 := Lib.hid hj5
        have HJ6 : Hid ((J.length + p.length) * 88 ≤ 140737488355328) := Lib.hid (by rw [hj5]; exact HLE.out)
        have HJ8 : Hid (((joinK s ps k).length + 1) * 88 ≤ 140737488355328) := Lib.hid (by rw [hj9]; have := HJ6.out; omega)
        have HJJ := Lib.hid hJ
        have HJ9 := Lib.hid hj9
        clear hj4 hj5 hj9 hJ HST HLE
        have d0 : decide ((k : Int) > 0) = true := decide_eq_true (by omega)
        have d1 : (0 : Int) < (k : Int) := by omega
        have hba := (Below.refl wr.heap.size wr).alloc (Nat.le_refl _) (.cells #[.int .i64 5, .int .i64 0, .string s, .int .i64 0, .int .i64 0, .string ⟨#[]⟩, .slice none 0 0] 52)
        have HS2 := Lib.hid (Src.sep wr (.slice ya (joinK s ps k).length yc) s HI.out.1.low)
        have HO2 := Lib.hid (HI.out.1.bl hba)
        have HB2 := Lib.hid (HI.out.2.trans (hba.mono HI.out.2.size))
        have HBA := Lib.hid hba
        clear hba
        go_wp2_with (at_builtin; refine wpList_app rfl _ _ rfl w.heap.size (.slice ya (joinK s ps k).length yc) (joinK s ps k) [sepF s] (by rfl) HO2.out _ 1 (by rfl) HS2.out ?qc5 ?qc6 ?_)
        case qc5 => exact HJ8.out
        case qc6 => exact HB2.out.size
        intro a4 c4 w4 g1 g2
        have g1 : OwnL w.heap.size J (.slice a4 J.length c4) w4 := by rw [← HJ9.out, ← HJJ.out]; exact g1
        rw [show (joinK s ps k).length + 1 = J.length from HJ9.out]
        have HO4 := Lib.hid g1
        have HB4 := Lib.hid (below_grown HB2.out (Nat.le_refl _) g2 (fun b hb => by obtain ⟨xs, h, _⟩ := HO2.out; exact (owned_cells h hb).1))
        have HS3 : Hid (Src w4 (.slice a4 J.length c4) p ka kc) := Lib.hid (Src.arg HRD.out HN.out HB4.out (Nat.le_refl _) HO4.out)
        have hc4 := (HB4.out.cell (p := ⟨g, o + k, none⟩) hg).trans HC0.out
        have HO3 := HO4
        have HB3 := HB4
        clear g1 g2
        go_wp2_with (at_builtin; refine wpList_app rfl _ _ rfl w.heap.size (.slice a4 J.length c4) J p (by rfl) HO3.out ka kc (by rfl) HS3.out ?qc7 ?qc8 ?_)
        case qc7 => exact HJ6.out
        case qc8 => exact HB3.out.size
        intro a5 c5 w5 g1 g2
        rw [HJ4.out, HJ5.out] at g1
        rw [HJ5.out]
        have HO5 := Lib.hid g1
        have HB5 := Lib.hid (below_grown HB3.out (Nat.le_refl _) g2 (fun b hb => by obtain ⟨xs, h, _⟩ := HO3.out; exact (owned_cells h hb).1))
        clear g1 g2
        go_wp2_with fail
        go_roundw
        case rel => exact ⟨k + 1, by omega, by go_num, ⟨_, _, rfl⟩, Lib.hid ⟨HO5.out, HB5.out⟩⟩
        case measure => simp [intOf]; omega
    · obtain rfl : k = ps.length := by omega
      go_wp2_with fail
      go_ret
      exact ⟨_, rfl, HI.out.1, HI.out.2⟩
end Go.Proofs.YtopbmndjnjnmcaaGreatDoor
namespace Go.Proofs.YtopbmndjnjnmcaaGreatDoor
open Go.RowKit Lx Go.Sort
/- (L6) -/
attribute [local go_sem] Oper.semAt_some
set_option maxRecDepth 100000 in
set_option maxHeartbeats 8000000 in
/-- The law's alike of the same pieces -/
theorem lAlike_any (S S2 : Nat → Prop) (ps : List (List Fr)) (v v2 : Value) (w : World) (hr : PcRead w S v ps) (hr2 : PcRead w S2 v2 ps) :
    Calls Tryz.prog 34 #[v, v2] w fun e W => e = .returned (.bool true) ∧ Below w.heap.size w W := by
  obtain ⟨pa, pc, rfl, hm, hp1⟩ := hr
  obtain ⟨qa, qc, rfl, _, hp2⟩ := hr2
  have HP := Lib.hid hp1
  have HQ := Lib.hid hp2
  obtain ⟨n, hn⟩ : ∃ n, ps.length = n := ⟨_, rfl⟩
  rw [hn] at hm ⊢
  have HN := Lib.hid hn
  unfold maxLen at hm
  clear hp1 hp2 hn
  have e0 : ((n : Int) != (n : Int)) = false := by simp
  go_enter Tryz.func34, Tryz.ntmps34
  go_wp2_with fail
  go_loopw [5] (fun x wr => ∃ k : Nat, k ≤ n ∧ x = .int .i64 k ∧ Hid (Below w.heap.size w wr)) (fun x _ => n - (intOf x).toNat)
  case atStart => exact ⟨0, by omega, rfl, Lib.hid (Below.refl _ _)⟩
  case round =>
    obtain ⟨k, hk, rfl, HB⟩ := hrel
    by_cases hlt : k < n
    · obtain ⟨p, hp⟩ : ∃ p, ps[k]? = some p := ⟨_, List.getElem?_eq_getElem (by rw [HN.out]; exact hlt)⟩
      obtain ⟨g, o, kv, rfl, hg, hc, _, hrd⟩ := HP.out k p hp
      obtain ⟨g2, o2, kv2, rfl, hg2, hc2, _, hrd2⟩ := HQ.out k p hp
      have k1 : (k : Int) < (n : Int) := by omega
      have z5 : (wr.drew).cell? ⟨g, o + k, none⟩ = some kv := (HB.out.cell (p := ⟨g, o + k, none⟩) hg).trans hc
      have x5 : (wr.drew).cell? ⟨g2, o2 + k, none⟩ = some kv2 := (HB.out.cell (p := ⟨g2, o2 + k, none⟩) hg2).trans hc2
      have c5 : wr.cell? ⟨g, o + k, none⟩ = some kv := z5
      have d5 : wr.cell? ⟨g2, o2 + k, none⟩ = some kv2 := x5
      have BD := Lib.hid HB.out.drew
      have HIH : Hid (∀ W, Below w.heap.size w W → Calls Tryz.prog 20 #[kv, kv2, .bool false] W fun e W' => e = .returned (.bool true) ∧ Below W.heap.size W W') := Lib.hid fun W hb => alikeS_any S S2 (fsz p + 1) p kv kv2 W (Nat.lt_succ_self _) (hrd.bl hb) (hrd2.bl hb)
      clear hc hc2 hrd hrd2 hp hg hg2
      go_wp2_with fail
      go_region_held3 (fun w' => w'.cell? ⟨g, o + k, none⟩ = some kv ∧ w'.cell? ⟨g2, o2 + k, none⟩ = some kv2) (first | exact ⟨z5, x5⟩ | exact ⟨c5, d5⟩ | exact ⟨u5, y5⟩ | go_keep)
        (first
          | (go_at_call 20; go_must (refine (HIH.out _ BD.out).mono ?_); rintro e W5 ⟨rfl, hb5⟩; have B5 := Lib.hid (BD.out.trans (hb5.mono BD.out.size)); have u5 := (hb5.cell (p := ⟨g, o + k, none⟩) (block_lt z5)).trans z5; have y5 := (hb5.cell (p := ⟨g2, o2 + k, none⟩) (block_lt x5)).trans x5))
      go_wp2_with fail
      go_roundw
      case rel => exact ⟨k + 1, by omega, by go_num, B5⟩
      case measure => simp [intOf]; omega
    · obtain rfl : k = n := by omega
      go_wp2_with fail
      go_ret
      exact ⟨rfl, HB.out⟩
end Go.Proofs.YtopbmndjnjnmcaaGreatDoor
namespace Go.Proofs.YtopbmndjnjnmcaaGreatDoor
open Go.RowKit Lx Go.Sort
/- (L7) -/
attribute [local go_sem] Oper.semAt_some
/-- Whether a fragment is a sign between two pieces. -/
def isSep (s : ByteArray) (f : Fr) : Bool := (f.op.toList == []) && ((f.tok.kind == 5) && (f.tok.text.toList == s.toList))
/-- The pieces of the first fragments: those that are done, and the last one. -/
def splitK (s : ByteArray) (l : List Fr) : Nat → List (List Fr) × List Fr
  | 0 => ([], [])
  | k + 1 => match l[k]? with
    | some f => if isSep s f = true then ((splitK s l k).1 ++ [(splitK s l k).2], []) else ((splitK s l k).1, (splitK s l k).2 ++ [f])
    | none => splitK s l k
def splitP (s : ByteArray) (l : List Fr) : List (List Fr) := (splitK s l l.length).1 ++ [(splitK s l l.length).2]
theorem splitK_len (s : ByteArray) (l : List Fr) : ∀ k, (splitK s l k).1.length ≤ k ∧ (splitK s l k).2.length ≤ k
  | 0 => ⟨Nat.le_refl _, Nat.le_refl _⟩
  | k + 1 => by
    obtain ⟨h1, h2⟩ := splitK_len s l k
    unfold splitK
    split
    · split
      · simp only [List.length_append, List.length_cons, List.length_nil]; omega
      · simp only [List.length_append, List.length_cons, List.length_nil]; omega
    · omega
/-- Pieces that a call is making: those that are done, and the last one, which still grows. -/
structure SpI (base : Nat) (K : Nat → Prop) (d : List (List Fr)) (cur : List Fr) (v : Value) (vs : List Value) (cv : Value) (xs : List Value) (W : World) : Prop where
  own : W.ownsRow base 25 1 v (d.length + 1) (vs ++ [cv])
  len : vs.length = d.length
  pcs : ∀ (i : Nat) (p : List Fr), d[i]? = some p → ∃ kv : Value, vs[i]? = some kv ∧ (∀ n c, kv = .slice none n c → c = 0) ∧ FrRead W (fun b => v.ownBlock ≠ some b ∧ cv.ownBlock ≠ some b) kv p
  row : W.ownsRow base 52 7 cv cur.length xs
  kids : KidsC W K cur xs
  low : ∀ b, K b → b < W.heap.size
  hv : ∀ b, v.ownBlock = some b → ¬ K b ∧ cv.ownBlock ≠ some b
  hc : ∀ b, cv.ownBlock = some b → ¬ K b
theorem own_nil {W : World} {base e size n : Nat} {v : Value} {xs : List Value} (h : W.ownsRow base e size v n xs) : ∀ m c, v = .slice none m c → c = 0 := by
  intro m c hv
  obtain ⟨_, ⟨h, _⟩ | ⟨g, _, _, h, _⟩⟩ := h
  · rw [h] at hv; cases hv; rfl
  · rw [h] at hv; simp at hv
theorem SpI.bl {base : Nat} {K : Nat → Prop} {d : List (List Fr)} {cur : List Fr} {v cv : Value} {vs xs : List Value} {W W' : World} (h : SpI base K d cur v vs cv xs W) (hb : Below W.heap.size W W') : SpI base K d cur v vs cv xs W' :=
  ⟨owns_bl' h.own hb, h.len, fun i p hi => by obtain ⟨kv, h1, h2, h3⟩ := h.pcs i p hi; exact ⟨kv, h1, h2, h3.bl hb⟩, owns_bl' h.row hb, h.kids.keep fun b hs hlt => ⟨hb.block b hlt, hs⟩,
    fun b hk => Nat.lt_of_lt_of_le (h.low b hk) hb.size, h.hv, h.hc⟩
/-- A new piece begins. -/
theorem SpI.sep {base : Nat} {K : Nat → Prop} {d : List (List Fr)} {cur : List Fr} {v v' cv : Value} {vs xs : List Value} {W W' : World} (h : SpI base K d cur v vs cv xs W)
    (hown : W'.ownsRow base 25 1 v' (d.length + 1 + 1) ((vs ++ [cv]) ++ [.slice none 0 0])) (hg : W.grownBy W' v.ownBlock) (hat : v'.ownBlock = v.ownBlock ∨ v'.ownBlock = some W.heap.size) :
    SpI base K (d ++ [cur]) [] v' (vs ++ [cv]) (.slice none 0 0) [] W' := by
  have hne : ∀ b, b < W.heap.size → v.ownBlock ≠ some b → v'.ownBlock ≠ some b := fun b hlt hb => by
    rcases hat with h9 | h9
    · rw [h9]; exact hb
    · rw [h9]; intro e; cases e; omega
  refine ⟨by rw [List.length_append]; exact hown, by rw [List.length_append, List.length_append, h.len]; rfl, fun i p hi => ?_, World.ownsRow_nil _ _ _ _, rfl, fun b hk => Nat.lt_of_lt_of_le (h.low b hk) hg.size, fun b hb => ⟨fun hk => ?_, fun e => by cases e⟩, fun b hb => by cases hb⟩
  · rcases Nat.lt_or_ge i d.length with hlt | hge
    · rw [List.getElem?_append_left hlt] at hi
      obtain ⟨kv, h1, h2, h3⟩ := h.pcs i p hi
      refine ⟨kv, by rw [List.getElem?_append_left (by rw [h.len]; exact hlt)]; exact h1, h2, h3.keep fun b hs hlt => ⟨hg.block b hlt (Ne.symm hs.1), hne b hlt hs.1, fun e => by cases e⟩⟩
    · rw [List.getElem?_append_right hge] at hi
      have hi0 : i - d.length = 0 := by
        rcases Nat.eq_zero_or_pos (i - d.length) with h0 | h0
        · exact h0
        · rw [List.getElem?_eq_none (by simp only [List.length_cons, List.length_nil]; omega)] at hi; cases hi
      rw [hi0] at hi
      simp only [List.getElem?_cons_zero, Option.some.injEq] at hi
      subst hi
      refine ⟨cv, by rw [List.getElem?_append_right (by rw [h.len]; exact hge), h.len, hi0]; rfl, own_nil h.row, ?_⟩
      have hrd : FrRead W (fun b => v.ownBlock ≠ some b) cv cur := kids_read h.row rfl h.kids (fun b hk _ e => (h.hv b e).1 hk) (fun b hb e => (h.hv b e).2 hb)
      exact hrd.keep fun b hs hlt => ⟨hg.block b hlt (Ne.symm hs), hne b hlt hs, fun e => by cases e⟩
  · rcases hat with h9 | h9
    · rw [h9] at hb; exact (h.hv b hb).1 hk
    · rw [h9] at hb; cases hb; have := h.low _ hk; omega
end Go.Proofs.YtopbmndjnjnmcaaGreatDoor
namespace Go.Proofs.YtopbmndjnjnmcaaGreatDoor
open Go.RowKit Lx Go.Sort
/- (L8) -/
attribute [local go_sem] Oper.semAt_some
theorem SpI.put {base : Nat} {K : Nat → Prop} {d : List (List Fr)} {cur : List Fr} {f : Fr} {kv0 : Value} {v cv cv' : Value} {vs xs : List Value} {W W' : World} (h : SpI base K d cur v vs cv xs W) (hf : FrRead W K kv0 f.kids)
    (ha : W'.ownsRow base 52 7 cv' (cur.length + 1) (xs ++ frC f.tok f.op kv0)) (hb : W'.ownsRow base 25 1 v (d.length + 1) (vs ++ [cv']))
    (hc : ∀ b, b < W.heap.size → v.ownBlock ≠ some b → cv.ownBlock ≠ some b → W'.heap[b]? = W.heap[b]?) (hs : W.heap.size ≤ W'.heap.size)
    (hne : ∀ b, v.ownBlock = some b → cv'.ownBlock ≠ some b) (hat : cv'.ownBlock = cv.ownBlock ∨ ∀ b, cv'.ownBlock = some b → W.heap.size ≤ b) :
    SpI base K d (cur ++ [f]) v vs cv' (xs ++ frC f.tok f.op kv0) W' := by
  have hkeep : ∀ b, b < W.heap.size → cv.ownBlock ≠ some b → cv'.ownBlock ≠ some b := fun b hlt hn e => by
    rcases hat with h9 | h9
    · rw [h9] at e; exact hn e
    · have := h9 b e; omega
  have hK : ∀ b, K b → b < W.heap.size → W'.heap[b]? = W.heap[b]? ∧ K b := fun b hk hlt => ⟨hc b hlt (fun e => (h.hv b e).1 hk) (fun e => h.hc b e hk), hk⟩
  refine ⟨hb, h.len, fun i p hi => ?_, by rw [List.length_append]; exact ha, KidsC.add (hf.keep hK) (h.kids.keep hK), fun b hk => Nat.lt_of_lt_of_le (h.low b hk) hs, fun b hv => ⟨(h.hv b hv).1, hne b hv⟩, fun b hcv hk => ?_⟩
  · obtain ⟨kv, h1, h2, h3⟩ := h.pcs i p hi
    exact ⟨kv, h1, h2, h3.keep fun b hb hlt => ⟨hc b hlt hb.1 hb.2, hb.1, hkeep b hlt hb.2⟩⟩
  · rcases hat with h9 | h9
    · rw [h9] at hcv; exact h.hc b hcv hk
    · have := h9 b hcv; have := h.low b hk; omega
end Go.Proofs.YtopbmndjnjnmcaaGreatDoor
namespace Go.Proofs.YtopbmndjnjnmcaaGreatDoor
open Go.RowKit Lx Go.Sort
/- (L9) -/
section
variable {base B0 : Nat} {K : Nat → Prop} {d : List (List Fr)} {cur : List Fr} {f : Fr} {kv0 cv : Value} {vs xs : List Value} {w W w10 : World} {gb cap g1 cap1 : Nat} {o : Obj}
theorem sp_done (h : SpI base K d cur (.slice (some ⟨gb, 0, none⟩) (d.length + 1) cap) vs cv xs W) (hf : FrRead W K kv0 f.kids) (hB : base ≤ W.heap.size) (hbw : Below base w W)
    (h1 : w10.ownsRow base 52 7 (.slice (some ⟨g1, 0, none⟩) (cur.length + 1) cap1) (cur.length + 1) (xs ++ zFrag))
    (hg : (W.alloc o).drew.grownBy w10 cv.ownBlock) (hat : cv.ownBlock = some g1 ∨ g1 = W.heap.size + 1) :
    ∀ F, F = ((((((((w10.setCell ⟨g1, cur.length * 7, none⟩ (.int .i64 f.tok.kind)).setCell ⟨g1, cur.length * 7 + 1, none⟩ (.int .i64 f.tok.num)).setCell ⟨g1, cur.length * 7 + 2, none⟩ (.string f.tok.text)).setCell ⟨g1, cur.length * 7 + 3, none⟩ (.int .i64 f.tok.at_)).setCell
        ⟨g1, cur.length * 7 + 4, none⟩ (.int .i64 f.tok.mark)).setCell ⟨g1, cur.length * 7 + 5, none⟩ (.string f.op)).setCell ⟨g1, cur.length * 7 + 6, none⟩ kv0).setCell ⟨gb, d.length, none⟩ (.slice (some ⟨g1, 0, none⟩) (cur.length + 1) cap1)) →
      SpI base K d (cur ++ [f]) (.slice (some ⟨gb, 0, none⟩) (d.length + 1) cap) vs (.slice (some ⟨g1, 0, none⟩) (cur.length + 1) cap1) (xs ++ frC f.tok f.op kv0) F ∧ Below base w F ∧ (∀ b, b < W.heap.size → gb ≠ b → (cv.ownBlock ≠ some b → F.heap[b]? = W.heap[b]?)) ∧ W.heap.size ≤ F.heap.size := by
  intro F hF
  have hxl := h.kids.len
  have hgb : gb < W.heap.size := own_lt h.own rfl
  obtain ⟨hBgb, _⟩ := owned_cells h.own (b := gb) rfl
  obtain ⟨hBg1, _⟩ := owned_cells h1 (b := g1) rfl
  have hcg : cv.ownBlock ≠ some gb := (h.hv gb rfl).2
  have hne : g1 ≠ gb := fun e => by
    rcases hat with h9 | h9
    · rw [e] at h9; exact hcg h9
    · omega
  have hszd : (W.alloc o).drew.heap.size = W.heap.size + 1 := by show (W.alloc o).heap.size = _; rw [World.size_alloc]
  have hsz10 := hg.size
  rw [hszd] at hsz10
  have hba : Below W.heap.size W (W.alloc o).drew := ((Below.refl W.heap.size W).alloc (Nat.le_refl _) o).drew
  have h10 : ∀ b, b < W.heap.size → cv.ownBlock ≠ some b → w10.heap[b]? = W.heap[b]? := fun b hlt hn => (hg.block b (by omega) (Ne.symm hn)).trans (hba.block b hlt)
  have hown := owns_set1 (a := kv0) (owns_set1 (a := .string f.op) (owns_set1 (a := .int .i64 f.tok.mark) (owns_set1 (a := .int .i64 f.tok.at_) (owns_set1 (a := .string f.tok.text) (owns_set1 (a := .int .i64 f.tok.num) (owns_set1 (a := .int .i64 f.tok.kind) h1 (cur.length * 7)) (cur.length * 7 + 1)) (cur.length * 7 + 2)) (cur.length * 7 + 3)) (cur.length * 7 + 4)) (cur.length * 7 + 5)) (cur.length * 7 + 6)
  rw [set7 hxl] at hown
  obtain ⟨M, hM⟩ : ∃ M, ((((((w10.setCell ⟨g1, cur.length * 7, none⟩ (.int .i64 f.tok.kind)).setCell ⟨g1, cur.length * 7 + 1, none⟩ (.int .i64 f.tok.num)).setCell ⟨g1, cur.length * 7 + 2, none⟩ (.string f.tok.text)).setCell ⟨g1, cur.length * 7 + 3, none⟩ (.int .i64 f.tok.at_)).setCell
        ⟨g1, cur.length * 7 + 4, none⟩ (.int .i64 f.tok.mark)).setCell ⟨g1, cur.length * 7 + 5, none⟩ (.string f.op)).setCell ⟨g1, cur.length * 7 + 6, none⟩ kv0 = M := ⟨_, rfl⟩
  rw [hM] at hown hF
  have hMb : ∀ b, b ≠ g1 → M.heap[b]? = w10.heap[b]? := fun b hb => by
    rw [← hM, set_ne _ _ _ _ hb, set_ne _ _ _ _ hb, set_ne _ _ _ _ hb, set_ne _ _ _ _ hb, set_ne _ _ _ _ hb, set_ne _ _ _ _ hb, set_ne _ _ _ _ hb]
  have hMs : M.heap.size = w10.heap.size := by rw [← hM]; simp only [set_size]
  have hO : M.ownsRow base 25 1 (.slice (some ⟨gb, 0, none⟩) (d.length + 1) cap) (d.length + 1) (vs ++ [cv]) := owns_keep h.own fun b hb => by
    cases hb
    rw [hMb gb (Ne.symm hne), h10 gb hgb hcg]
  have hO2 := owns_set1 (a := .slice (some ⟨g1, 0, none⟩) (cur.length + 1) cap1) hO d.length
  rw [List.set_append_right _ _ (by rw [h.len]; exact Nat.le_refl _), h.len, Nat.sub_self] at hO2
  rw [← hF] at hO2
  have hbl : Below base w w10 := ((hbw.trans (hba.mono hB))).grown hg (by rw [hszd]; omega) (fun k e => (owned_cells h.row e).1)
  have hcF : ∀ b, b < W.heap.size → gb ≠ b → cv.ownBlock ≠ some b → F.heap[b]? = W.heap[b]? := fun b hlt hv hc => by
    have hbg : b ≠ g1 := fun e => by
      subst e
      rcases hat with h9 | h9
      · exact hc h9
      · omega
    rw [hF, set_ne _ _ _ _ (Ne.symm hv), hMb b hbg]
    exact h10 b hlt hc
  refine ⟨h.put hf (by rw [hF]; exact ownsRow_setCell_other hown (by simpa [Value.ownBlock] using hne) _) hO2 (fun b hlt hv hc => hcF b hlt (fun e => hv (by rw [← e]; rfl)) hc) (by rw [hF, set_size, hMs]; omega) (fun b hb e => by cases hb; cases e; exact hne rfl) ?_, ?_, hcF, by rw [hF, set_size, hMs]; omega⟩
  · rcases hat with h9 | h9
    · exact .inl h9.symm
    · exact .inr fun b e => by cases e; show W.heap.size ≤ g1; omega
  · rw [hF, ← hM]
    exact (((((((hbl.setCell hBg1 _).setCell hBg1 _).setCell hBg1 _).setCell hBg1 _).setCell hBg1 _).setCell hBg1 _).setCell hBg1 _).setCell hBgb _
theorem sp_done2 (h : SpI base K d cur (.slice (some ⟨gb, 0, none⟩) (d.length + 1) cap) vs cv xs W) (hf : FrRead W K kv0 f.kids) (hB : base ≤ W.heap.size) (hbw : Below base w W)
    (h1 : w10.ownsRow base 52 7 (.slice (some ⟨g1, 0, none⟩) (cur.length + 1) cap1) (cur.length + 1) (xs ++ zFrag))
    (hg : (W.alloc o).drew.grownBy w10 cv.ownBlock) (hat : cv.ownBlock = some g1 ∨ g1 = W.heap.size + 1) (hne : g1 ≠ gb) :
    ∀ F, F = ((((((((w10.setCell ⟨gb, d.length, none⟩ (.slice (some ⟨g1, 0, none⟩) (cur.length + 1) cap1)).setCell ⟨g1, cur.length * 7, none⟩ (.int .i64 f.tok.kind)).setCell ⟨g1, cur.length * 7 + 1, none⟩ (.int .i64 f.tok.num)).setCell ⟨g1, cur.length * 7 + 2, none⟩ (.string f.tok.text)).setCell ⟨g1, cur.length * 7 + 3, none⟩ (.int .i64 f.tok.at_)).setCell
        ⟨g1, cur.length * 7 + 4, none⟩ (.int .i64 f.tok.mark)).setCell ⟨g1, cur.length * 7 + 5, none⟩ (.string f.op)).setCell ⟨g1, cur.length * 7 + 6, none⟩ kv0) →
      SpI base K d (cur ++ [f]) (.slice (some ⟨gb, 0, none⟩) (d.length + 1) cap) vs (.slice (some ⟨g1, 0, none⟩) (cur.length + 1) cap1) (xs ++ frC f.tok f.op kv0) F ∧ Below base w F ∧ (∀ b, b < W.heap.size → gb ≠ b → (cv.ownBlock ≠ some b → F.heap[b]? = W.heap[b]?)) ∧ W.heap.size ≤ F.heap.size := by
  intro F hF
  have hn : ∀ i j, (⟨gb, i, none⟩ : Addr).block ≠ (⟨g1, j, none⟩ : Addr).block := fun _ _ => Ne.symm hne
  rw [set_comm _ _ _ _ _ (hn _ _), set_comm _ _ _ _ _ (hn _ _), set_comm _ _ _ _ _ (hn _ _), set_comm _ _ _ _ _ (hn _ _), set_comm _ _ _ _ _ (hn _ _), set_comm _ _ _ _ _ (hn _ _), set_comm _ _ _ _ _ (hn _ _)] at hF
  exact sp_done h hf hB hbw h1 hg hat F hF
end
end Go.Proofs.YtopbmndjnjnmcaaGreatDoor
namespace Go.Proofs.YtopbmndjnjnmcaaGreatDoor
open Go.RowKit Lx Go.Sort
/- (L9b) -/
theorem info25 : (Tryz.prog.info? 25).map (fun i => (i.zero, i.size, i.bytes)) = some (some (.slice none 0 0), 1, 24) := by kernel_rfl
theorem SpI.fin {base gb cap : Nat} {K : Nat → Prop} {d : List (List Fr)} {cur : List Fr} {cv : Value} {vs xs : List Value} {W : World} (h : SpI base K d cur (.slice (some ⟨gb, 0, none⟩) (d.length + 1) cap) vs cv xs W) :
    PcRead W (fun _ => True) (.slice (some ⟨gb, 0, none⟩) (d.length + 1) cap) (d ++ [cur]) := by
  have hg := own_lt h.own (g := gb) rfl
  have hml : d.length + 1 ≤ maxLen := by
    obtain ⟨_, ⟨h, _⟩ | ⟨g', cap', cu, h, _, _, h1, h2, _⟩⟩ := h.own
    · simp at h
    · exact Nat.le_trans h1 h2
  refine ⟨some ⟨gb, 0, none⟩, cap, by rw [List.length_append]; rfl, by rw [List.length_append]; exact hml, fun k p hk => ?_⟩
  rcases Nat.lt_or_ge k d.length with hlt | hge
  · rw [List.getElem?_append_left hlt] at hk
    obtain ⟨kv, h1, h2, h3⟩ := h.pcs k p hk
    refine ⟨gb, 0, kv, rfl, hg, ?_, h2, h3.keep fun b _ _ => ⟨rfl, trivial⟩⟩
    rw [Nat.zero_add]
    exact own_at h.own (by rw [List.getElem?_append_left (by rw [h.len]; exact hlt)]; exact h1)
  · rw [List.getElem?_append_right hge] at hk
    have hk0 : k - d.length = 0 := by
      rcases Nat.eq_zero_or_pos (k - d.length) with h0 | h0
      · exact h0
      · rw [List.getElem?_eq_none (by simp only [List.length_cons, List.length_nil]; omega)] at hk; cases hk
    rw [hk0] at hk
    simp only [List.getElem?_cons_zero, Option.some.injEq] at hk
    subst hk
    refine ⟨gb, 0, cv, rfl, hg, ?_, own_nil h.row, kids_read h.row rfl h.kids (fun _ _ _ => trivial) (fun _ _ => trivial)⟩
    rw [Nat.zero_add]
    exact own_at h.own (by rw [List.getElem?_append_right (by rw [h.len]; exact hge), h.len, hk0]; rfl)
/-- What the loop of Split holds behind a fragment. -/
def SpE (w W1 : World) (d : List (List Fr)) (cur : List Fr) (v : Value) (F : World) : Prop :=
  (∃ vs cv xs', SpI w.heap.size (fun b => w.heap.size < b ∧ b < W1.heap.size) d cur v vs cv xs' F) ∧ Below w.heap.size w F ∧ W1.heap.size ≤ F.heap.size ∧ ∀ b, w.heap.size < b → b < W1.heap.size → F.heap[b]? = W1.heap[b]?
end Go.Proofs.YtopbmndjnjnmcaaGreatDoor
namespace Go.Proofs.YtopbmndjnjnmcaaGreatDoor
open Go.RowKit Lx Go.Sort
/- (L10) -/
attribute [local go_sem] Oper.semAt_some
set_option maxRecDepth 100000 in
set_option maxHeartbeats 16000000 in
/-- **Split** -/
theorem split_any (S : Nat → Prop) (l : List Fr) (s : ByteArray) (v : Value) (w : World) (hr : FrRead w S v l) (hl : Lens l) (hlen : l.length * 88 + 88 ≤ 140737488355328) :
    Calls Tryz.prog 35 #[v, .string s] w fun e W => ∃ v', e = .returned v' ∧ PcRead W (fun _ => True) v' (splitP s l) ∧ Below w.heap.size w W := by
  obtain ⟨i0, hi0, hz0, hz1, hz2⟩ := info_parts info52
  obtain ⟨j0, hj0, hy0, hy1, hy2⟩ := info_parts info25
  have HR := Lib.hid hr
  have HL := Lib.hid hl
  have HLL := Lib.hid hlen
  have hm : l.length ≤ maxLen := by obtain ⟨_, _, _, _, _, h, _⟩ := hr; exact h.1
  unfold maxLen at hm
  obtain ⟨va, vc, _, _, rfl, h9⟩ := hr
  clear hl h9 hlen
  have hba := (Below.refl w.heap.size w).alloc (Nat.le_refl _) (.cells #[.slice none 0 0] 25)
  have HN1 := Lib.hid (heap_alloc_new w (.cells #[.slice none 0 0] 25))
  have HBA := Lib.hid hba
  have HC := Lib.hid (clone_any S (fsz l + 1) l _ (w.alloc (.cells #[.slice none 0 0] 25)) (Nat.lt_succ_self _) (HR.out.bl hba) HL.out)
  clear hba
  go_enter Tryz.func35, Tryz.ntmps35
  go_wp2_with fail
  go_at_call 63
  refine HC.out.mono ?_
  rintro e W1 ⟨a, c, xs, rfl, hown, hk, hb⟩
  have hsa : (w.alloc (.cells #[.slice none 0 0] 25)).heap.size = w.heap.size + 1 := World.size_alloc _ _
  rw [hsa] at hown hk hb
  have HO := Lib.hid hown
  have HB := Lib.hid (HBA.out.trans (hb.mono (by omega)))
  have HSZ : Hid (w.heap.size + 1 ≤ W1.heap.size) := Lib.hid (by have := hb.size; rw [hsa] at this; exact this)
  have HK : Hid (KidsC W1 (fun b => w.heap.size < b ∧ b < W1.heap.size) l xs) := Lib.hid (by
    refine hk.keep fun b hs hlt => ⟨rfl, by have := hs.1; omega, hlt⟩)
  have HST : Hid (∃ cv xs', SpI w.heap.size (fun b => w.heap.size < b ∧ b < W1.heap.size) [] [] (.slice (some ⟨w.heap.size, 0, none⟩) 1 1) [] cv xs' W1) := Lib.hid ⟨.slice none 0 0, [], by
    refine ⟨?_, rfl, fun i p hi => by simp at hi, World.ownsRow_nil _ _ _ _, rfl, fun b hb => hb.2, fun b hb => ⟨fun hk => ?_, fun e => by cases e⟩, fun b hb => by cases hb⟩
    · exact owns_keep (World.ownsRow_lit (base := w.heap.size) (e := 25) (size := 1) w #[.slice none 0 0] 1 (Nat.le_refl _) (by unfold maxLen; omega) rfl) fun b hb' => by cases hb'; exact hb.block w.heap.size (by omega)
    · cases hb; exact Nat.lt_irrefl _ hk.1⟩
  clear hown hk hb hsa HC HN1
  go_wp2_with fail
  go_loopw [5, 13] (fun y x wr => ∃ k : Nat, k ≤ l.length ∧ x = .int .i64 k ∧ (∃ gb cap, y = .slice (some ⟨gb, 0, none⟩) ((splitK s l k).1.length + 1) cap) ∧
    Hid ((∃ vs cv xs', SpI w.heap.size (fun b => w.heap.size < b ∧ b < W1.heap.size) (splitK s l k).1 (splitK s l k).2 y vs cv xs' wr) ∧ Below w.heap.size w wr ∧ W1.heap.size ≤ wr.heap.size ∧ ∀ b, w.heap.size < b → b < W1.heap.size → wr.heap[b]? = W1.heap[b]?)) (fun _ x _ => l.length - (intOf x).toNat)
  case atStart =>
    obtain ⟨cv, xs', h⟩ := HST.out
    exact ⟨0, by omega, rfl, ⟨_, _, rfl⟩, Lib.hid ⟨⟨[], cv, xs', h⟩, HB.out, Nat.le_refl _, fun b _ _ => rfl⟩⟩
  case round =>
    obtain ⟨k, hk, rfl, ⟨gb, cap, rfl⟩, HI⟩ := hrel
    by_cases hlt : k < l.length
    · obtain ⟨f, hf⟩ : ∃ f, l[k]? = some f := ⟨_, List.getElem?_eq_getElem hlt⟩
      have k1 : (k : Int) < (l.length : Int) := by omega
      obtain ⟨⟨vs, cv, xs', hsp⟩, hbel, hws, hkeep⟩ := HI.out
      obtain ⟨ag, hag⟩ : ∃ ag, a = some ⟨ag, 0, none⟩ := by
        obtain ⟨_, ⟨h, h1⟩ | ⟨g', _, _, h, _⟩⟩ := HO.out
        · omega
        · simp only [Value.slice.injEq] at h; exact ⟨g', h.1⟩
      subst hag
      have hown2 : wr.ownsRow (w.heap.size + 1) 52 7 (.slice (some ⟨ag, 0, none⟩) l.length c) l.length xs := owns_keep HO.out fun b hb => hkeep b (by have := (owned_cells HO.out hb).1; omega) (own_lt HO.out hb)
      have hk2 : KidsC wr (fun b => w.heap.size < b ∧ b < W1.heap.size) l xs := HK.out.keep fun b hs hlt => ⟨hkeep b hs.1 hs.2, hs⟩
      obtain ⟨kv, c0, c1, c2, c3, c4, c5, c6, hkr⟩ : ∃ kv, wr.cell? ⟨ag, k * 7, none⟩ = some (.int .i64 f.tok.kind) ∧ wr.cell? ⟨ag, k * 7 + 1, none⟩ = some (.int .i64 f.tok.num) ∧ wr.cell? ⟨ag, k * 7 + 2, none⟩ = some (.string f.tok.text) ∧
          wr.cell? ⟨ag, k * 7 + 3, none⟩ = some (.int .i64 f.tok.at_) ∧ wr.cell? ⟨ag, k * 7 + 4, none⟩ = some (.int .i64 f.tok.mark) ∧ wr.cell? ⟨ag, k * 7 + 5, none⟩ = some (.string f.op) ∧ wr.cell? ⟨ag, k * 7 + 6, none⟩ = some kv ∧ FrRead wr (fun b => w.heap.size < b ∧ b < W1.heap.size) kv f.kids := by
        have hrd := kids_read (S' := fun b => w.heap.size < b ∧ b < W1.heap.size) hown2 rfl hk2 (fun b hs _ => hs) (fun b hb => by have := (owned_cells HO.out hb).1; exact ⟨by omega, own_lt HO.out hb⟩)
        obtain ⟨a', c', g', o', hv', _, ha', hat'⟩ := hrd
        cases hv'
        have hne : l ≠ [] := by intro h; rw [h] at hlt; simp at hlt
        cases ha' hne
        obtain ⟨kv, _, _, c0, c1, c2, c3, c4, c5, c6, hkr⟩ := hat'.get hf
        simp only [Nat.zero_add] at c0 c1 c2 c3 c4 c5 c6
        exact ⟨kv, c0, c1, c2, c3, c4, c5, c6, hkr⟩
      obtain ⟨ka, kc, hkf⟩ : ∃ a c, kv = .slice a f.kids.length c := by obtain ⟨a, c, _, _, h, _⟩ := hkr; exact ⟨a, c, h⟩
      subst hkf
      have hb1 := (Below.refl wr.heap.size wr).alloc (Nat.le_refl _) (.cells #[.int .i64 f.tok.kind, .int .i64 f.tok.num, .string f.tok.text, .int .i64 f.tok.at_, .int .i64 f.tok.mark, .string f.op, .slice ka f.kids.length kc] 52)
      have HSP := Lib.hid (hsp.bl hb1)
      have HKR := Lib.hid (hkr.bl hb1)
      have hsa : (wr.alloc (.cells #[.int .i64 f.tok.kind, .int .i64 f.tok.num, .string f.tok.text, .int .i64 f.tok.at_, .int .i64 f.tok.mark, .string f.op, .slice ka f.kids.length kc] 52)).heap.size = wr.heap.size + 1 := World.size_alloc _ _
      have HB1 := Lib.hid (hbel.trans (hb1.mono hbel.size))
      have HWS : Hid (W1.heap.size ≤ (wr.alloc (.cells #[.int .i64 f.tok.kind, .int .i64 f.tok.num, .string f.tok.text, .int .i64 f.tok.at_, .int .i64 f.tok.mark, .string f.op, .slice ka f.kids.length kc] 52)).heap.size) := Lib.hid (by rw [hsa]; omega)
      have HKE : Hid (∀ b, w.heap.size < b → b < W1.heap.size → (wr.alloc (.cells #[.int .i64 f.tok.kind, .int .i64 f.tok.num, .string f.tok.text, .int .i64 f.tok.at_, .int .i64 f.tok.mark, .string f.op, .slice ka f.kids.length kc] 52)).heap[b]? = W1.heap[b]?) := Lib.hid (fun b h1 h2 => (hb1.block b (by omega)).trans (hkeep b h1 h2))
      have hsl := splitK_len s l k
      have hst : splitK s l (k + 1) = if isSep s f = true then ((splitK s l k).1 ++ [(splitK s l k).2], []) else ((splitK s l k).1, (splitK s l k).2 ++ [f]) := by rw [splitK, hf]
      have HST1 := Lib.hid hst
      have hse : isSep s f = (f.op.toList.isEmpty && ((f.tok.kind == 5) && (f.tok.text.toList == s.toList))) := by unfold isSep; cases f.op.toList <;> rfl
      have HSE := Lib.hid hse
      obtain ⟨d, hd⟩ : ∃ d, (splitK s l k).1 = d := ⟨_, rfl⟩
      obtain ⟨cur, hcur⟩ : ∃ cur, (splitK s l k).2 = cur := ⟨_, rfl⟩
      rw [hd, hcur] at HSP HST1
      rw [hd, hcur] at hsl
      rw [hd]
      have HSL := Lib.hid hsl
      have hw64 : wrap64 (d.length : Int) = d.length := by
        have := HLL.out
        unfold wrap64; omega
      clear hsp hkr hown2 hk2 hbel hws hkeep hb1 hsa hst hse hd hcur hsl
      have kn := heap_alloc_new wr (.cells #[.int .i64 f.tok.kind, .int .i64 f.tok.num, .string f.tok.text, .int .i64 f.tok.at_, .int .i64 f.tok.mark, .string f.op, .slice ka f.kids.length kc] 52)
      have hsa : (wr.alloc (.cells #[.int .i64 f.tok.kind, .int .i64 f.tok.num, .string f.tok.text, .int .i64 f.tok.at_, .int .i64 f.tok.mark, .string f.op, .slice ka f.kids.length kc] 52)).heap.size = wr.heap.size + 1 := World.size_alloc _ _
      have KN := Lib.hid kn
      have HSA := Lib.hid hsa
      clear kn hsa
      go_upto_block 1 with fail
      go_cut [5, 7, 8] from 15 to 48 (fun y p z wy => (∃ gb cap, y = .slice (some ⟨gb, 0, none⟩) ((splitK s l (k + 1)).1.length + 1) cap) ∧ Hid (SpE w W1 (splitK s l (k + 1)).1 (splitK s l (k + 1)).2 y wy))
      case rest =>
        obtain ⟨⟨gb', cap', rfl⟩, HSPE⟩ := hcut
        clear c0 c1 c2 c3 c4 c5 c6
        go_wp2_with fail
        go_roundw
        case rel => exact ⟨k + 1, by omega, by go_num, ⟨gb', cap', rfl⟩, HSPE⟩
        case measure => simp [intOf]; omega
      case first =>
        go_upto_region 5 with fail
        obtain ⟨W2, hW2⟩ : ∃ W2, (wr.alloc (.cells #[.int .i64 f.tok.kind, .int .i64 f.tok.num, .string f.tok.text, .int .i64 f.tok.at_, .int .i64 f.tok.mark, .string f.op, .slice ka f.kids.length kc] 52)) = W2 := ⟨_, rfl⟩
        rw [hW2] at KN HSA HSP HKR HB1 HWS HKE ⊢
        have n0 : W2.cell? ⟨wr.heap.size, 0, none⟩ = some (.int .i64 f.tok.kind) := by rw [cell_of_row _ _ _ _ _ _ KN.out]; rfl
        have n1 : W2.cell? ⟨wr.heap.size, 1, none⟩ = some (.int .i64 f.tok.num) := by rw [cell_of_row _ _ _ _ _ _ KN.out]; rfl
        have n2 : W2.cell? ⟨wr.heap.size, 2, none⟩ = some (.string f.tok.text) := by rw [cell_of_row _ _ _ _ _ _ KN.out]; rfl
        have n3 : W2.cell? ⟨wr.heap.size, 3, none⟩ = some (.int .i64 f.tok.at_) := by rw [cell_of_row _ _ _ _ _ _ KN.out]; rfl
        have n4 : W2.cell? ⟨wr.heap.size, 4, none⟩ = some (.int .i64 f.tok.mark) := by rw [cell_of_row _ _ _ _ _ _ KN.out]; rfl
        have n5 : W2.cell? ⟨wr.heap.size, 5, none⟩ = some (.string f.op) := by rw [cell_of_row _ _ _ _ _ _ KN.out]; rfl
        have n6 : W2.cell? ⟨wr.heap.size, 6, none⟩ = some (.slice ka f.kids.length kc) := by rw [cell_of_row _ _ _ _ _ _ KN.out]; rfl
        clear hW2 c0 c1 c2 c3 c4 c5 c6
        obtain ⟨bS, hbS⟩ : ∃ b, isSep s f = b := ⟨_, rfl⟩
        rw [hbS] at HSE HST1
        go_cut [32] from 17 to 32 (fun v wx => v = .bool bS ∧ wx = W2)
        case first =>
          cases e1 : f.op.toList.isEmpty
          · obtain rfl : bS = false := by rw [HSE.out, e1]; rfl
            go_wp2_with fail
            go_meet
            exact ⟨rfl, rfl⟩
          · cases e2 : (f.tok.kind == 5)
            · obtain rfl : bS = false := by rw [HSE.out, e1, e2]; rfl
              go_wp2_with fail
              go_meet
              exact ⟨rfl, rfl⟩
            · obtain rfl : bS = (f.tok.text.toList == s.toList) := by rw [HSE.out, e1, e2]; rfl
              go_wp2_with fail
              go_meet
              exact ⟨rfl, rfl⟩
        case rest =>
          obtain ⟨rfl, rfl⟩ := hcut
          cases bS
          · have hnx : splitK s l (k + 1) = (d, cur ++ [f]) := by rw [HST1.out]; rfl
            have HNX := Lib.hid hnx
            clear hnx
            have k6 : wc.cell? ⟨gb, d.length, none⟩ = some cv := own_at HSP.out.own (by rw [List.getElem?_append_right (by rw [HSP.out.len]; exact Nat.le_refl _), HSP.out.len, Nat.sub_self]; rfl)
            have hfz : wc.frozen? ⟨gb, d.length, none⟩ = false := HSP.out.own.frozenAt _
            have hgb2 : gb < wc.heap.size := own_lt HSP.out.own rfl
            obtain ⟨va9, vc9, hcv⟩ : ∃ a c, cv = .slice a cur.length c := own_form' HSP.out.row
            have HCV := Lib.hid hcv
            have HCG := Lib.hid (HSP.out.hv gb rfl).2
            have HXL := Lib.hid HSP.out.kids.len
            have HRW := Lib.hid HSP.out.row
            have hBs : w.heap.size ≤ wc.heap.size := HB1.out.size
            have HBS := Lib.hid hBs
            rw [HCV.out] at k6
            have hlw : wr.heap.size < wc.heap.size := by have := HSA.out; omega
            have i1 : (cur.length : Int) < (cur.length : Int) + 1 := by omega
            have i2 : cur.length < cur.length + 1 := by omega
            have i3 : (0 : Int) ≤ (cur.length : Int) := by omega
            have i4 : (d.length : Int) < (d.length : Int) + 1 := by omega
            have i5 : (0 : Int) ≤ (d.length : Int) := by omega
            clear hBs hcv
            have fin : ∀ g1 cap1 F, SpI w.heap.size (fun b => w.heap.size < b ∧ b < W1.heap.size) d (cur ++ [f]) (.slice (some ⟨gb, 0, none⟩) (d.length + 1) cap) vs (.slice (some ⟨g1, 0, none⟩) (cur.length + 1) cap1) (xs' ++ frC f.tok f.op (.slice ka f.kids.length kc)) F ∧ Below w.heap.size w F ∧ (∀ b, b < wc.heap.size → gb ≠ b → (cv.ownBlock ≠ some b → F.heap[b]? = wc.heap[b]?)) ∧ wc.heap.size ≤ F.heap.size →
                SpE w W1 d (cur ++ [f]) (.slice (some ⟨gb, 0, none⟩) (d.length + 1) cap) F := fun g1 cap1 F ⟨q1, q2, q3, q4⟩ =>
              ⟨⟨vs, _, _, q1⟩, q2, Nat.le_trans HWS.out q4, fun b h1 h2 => (q3 b (Nat.lt_of_lt_of_le h2 HWS.out) (fun e => (HSP.out.hv gb rfl).1 ⟨by omega, by omega⟩) (fun e => HSP.out.hc b e ⟨h1, h2⟩)).trans (HKE.out b h1 h2)⟩
            have FIN := Lib.hid fin
            clear fin
            go_upto_region 8 with fail
            go_region_law (first
              | (refine step_append_lies _ (by rfl) _ _ _ (by rfl) w.heap.size 52 i0 _ 7 88 Tryz.underlying25 hi0 hz0 hz1 hz2 rfl (by omega) cv cur.length xs' (by exact HCV.out.symm) ((HRW.out.alloc _).drew) ⟨wc.heap.size, 0, none⟩ 1 1 zFrag (by rfl) (by rfl) (World.news_of_block (cs := zFrag.toArray) (t := 52) (fr := (0, 0)) (heap_alloc_new wc _)) (by simp [zFrag, Value.oneCell']) (by omega) (by have := HSL.out; have := HLL.out; unfold maxLen; omega) (by have := HSL.out; have := HLL.out; omega) (by show w.heap.size ≤ (wc.alloc _).heap.size; rw [World.size_alloc]; exact Nat.le_succ_of_le HBS.out) (wc.heap.size + 1) (World.size_alloc _ _) ?_; intro g1 cap1 w10 hown1 hgrow hat hgl; have fz := hown1.frozenAt; have z0 := added_cells HXL.out hown1; have k7 : w10.cell? ⟨gb, d.length, none⟩ = _ := (hgrow.cell_far ⟨gb, d.length, none⟩ (by show gb < (wc.alloc _).heap.size; rw [World.size_alloc]; omega) (Ne.symm HCG.out)).trans ((Below.heap_alloc_cell wc _ ⟨gb, d.length, none⟩ hgb2).trans k6); have kz := (hgrow.frozen_far ⟨gb, d.length, none⟩ (by show gb < (wc.alloc _).heap.size; rw [World.size_alloc]; omega) (Ne.symm HCG.out)).trans ((((Below.refl wc.heap.size wc).alloc (Nat.le_refl _) _).frozen (p := ⟨gb, d.length, none⟩) hgb2).trans hfz); have hne : g1 ≠ gb := (by rcases hat with h9 | h9; (intro e; rw [e] at h9; exact HCG.out h9); omega); have hne2 := Ne.symm hne))
            · simp only [Exit.inBlock, Exit.then]
              go_step
              go_meet
              rw [HNX.out]
              refine ⟨⟨gb, cap, rfl⟩, Lib.hid ?_⟩
              with_reducible exact FIN.out _ _ _ (sp_done HSP.out HKR.out HBS.out HB1.out hown1 hgrow hat _ rfl)
            · simp only [Exit.inBlock, Exit.then]
              go_step
              go_meet
              rw [HNX.out]
              refine ⟨⟨gb, cap, rfl⟩, Lib.hid ?_⟩
              with_reducible exact FIN.out _ _ _ (sp_done2 HSP.out HKR.out HBS.out HB1.out hown1 hgrow hat hne _ rfl)
            · simp only [Exit.inBlock, Exit.then]
              go_step
              go_meet
              rw [HNX.out]
              refine ⟨⟨gb, cap, rfl⟩, Lib.hid ?_⟩
              with_reducible exact FIN.out _ _ _ (sp_done HSP.out HKR.out HBS.out HB1.out hown1 hgrow hat _ rfl)
            · simp only [Exit.inBlock, Exit.then]
              go_step
              go_meet
              rw [HNX.out]
              refine ⟨⟨gb, cap, rfl⟩, Lib.hid ?_⟩
              with_reducible exact FIN.out _ _ _ (sp_done2 HSP.out HKR.out HBS.out HB1.out hown1 hgrow hat hne _ rfl)
            · simp only [Exit.inBlock, Exit.then]
              go_step
              go_meet
              rw [HNX.out]
              refine ⟨⟨gb, cap, rfl⟩, Lib.hid ?_⟩
              with_reducible exact FIN.out _ _ _ (sp_done HSP.out HKR.out HBS.out HB1.out hown1 hgrow hat _ rfl)
            · simp only [Exit.inBlock, Exit.then]
              go_step
              go_meet
              rw [HNX.out]
              refine ⟨⟨gb, cap, rfl⟩, Lib.hid ?_⟩
              with_reducible exact FIN.out _ _ _ (sp_done2 HSP.out HKR.out HBS.out HB1.out hown1 hgrow hat hne _ rfl)
            · simp only [Exit.inBlock, Exit.then]
              go_step
              go_meet
              rw [HNX.out]
              refine ⟨⟨gb, cap, rfl⟩, Lib.hid ?_⟩
              with_reducible exact FIN.out _ _ _ (sp_done HSP.out HKR.out HBS.out HB1.out hown1 hgrow hat _ rfl)
            · simp only [Exit.inBlock, Exit.then]
              go_step
              go_meet
              rw [HNX.out]
              refine ⟨⟨gb, cap, rfl⟩, Lib.hid ?_⟩
              with_reducible exact FIN.out _ _ _ (sp_done2 HSP.out HKR.out HBS.out HB1.out hown1 hgrow hat hne _ rfl)
            · simp only [Exit.inBlock, Exit.then]
              go_step
              go_meet
              rw [HNX.out]
              refine ⟨⟨gb, cap, rfl⟩, Lib.hid ?_⟩
              with_reducible exact FIN.out _ _ _ (sp_done HSP.out HKR.out HBS.out HB1.out hown1 hgrow hat _ rfl)
            · simp only [Exit.inBlock, Exit.then]
              go_step
              go_meet
              rw [HNX.out]
              refine ⟨⟨gb, cap, rfl⟩, Lib.hid ?_⟩
              with_reducible exact FIN.out _ _ _ (sp_done2 HSP.out HKR.out HBS.out HB1.out hown1 hgrow hat hne _ rfl)
            · simp only [Exit.inBlock, Exit.then]
              go_step
              go_meet
              rw [HNX.out]
              refine ⟨⟨gb, cap, rfl⟩, Lib.hid ?_⟩
              with_reducible exact FIN.out _ _ _ (sp_done HSP.out HKR.out HBS.out HB1.out hown1 hgrow hat _ rfl)
            · simp only [Exit.inBlock, Exit.then]
              go_step
              go_meet
              rw [HNX.out]
              refine ⟨⟨gb, cap, rfl⟩, Lib.hid ?_⟩
              with_reducible exact FIN.out _ _ _ (sp_done2 HSP.out HKR.out HBS.out HB1.out hown1 hgrow hat hne _ rfl)
          · have hnx : splitK s l (k + 1) = (d ++ [cur], []) := by rw [HST1.out]; rfl
            have HNX := Lib.hid hnx
            clear hnx
            have hsa : wc.heap.size = wr.heap.size + 1 := HSA.out
            have hb2 := (Below.refl wc.heap.size wc).alloc (Nat.le_refl _) (.cells #[.slice none 0 0] 25)
            have HSP2 := Lib.hid (HSP.out.bl hb2)
            have HB2 := Lib.hid (HB1.out.trans (hb2.mono HB1.out.size))
            have HWS2 : Hid (W1.heap.size ≤ (wc.alloc (.cells #[.slice none 0 0] 25)).heap.size) := Lib.hid (Nat.le_trans HWS.out hb2.size)
            have HKE2 : Hid (∀ b, w.heap.size < b → b < W1.heap.size → (wc.alloc (.cells #[.slice none 0 0] 25)).heap[b]? = W1.heap[b]?) := Lib.hid (fun b h1 h2 => (hb2.block b (Nat.lt_of_lt_of_le h2 HWS.out)).trans (HKE.out b h1 h2))
            have HNEW : Hid (∀ j u, [Value.slice none 0 0][j]? = some u → (wc.alloc (.cells #[.slice none 0 0] 25)).cell? ((⟨wc.heap.size, 0, none⟩ : Addr).add j) = some u) := Lib.hid (cell_one_new _ _ _)
            clear hb2 hsa
            go_wp2_with (at_builtin; refine wpList_append_own_at _ rfl _ _ 42 rfl w.heap.size 25 j0 _ 1 24 Tryz.underlying42 hj0 hy0 hy1 hy2 rfl (by omega) (.slice (some ⟨gb, 0, none⟩) (d.length + 1) cap) (d.length + 1) (vs ++ [cv]) (by rfl) HSP2.out.own ⟨wc.heap.size, 0, none⟩ 1 1 [.slice none 0 0] (by rfl) (by rfl) HNEW.out (by simp [Value.oneCell']) ?qc1 ?qc2 ?qc3 ?_)
            case qc1 => have := HSL.out; have := HLL.out; unfold maxLen; omega
            case qc2 => have := HSL.out; have := HLL.out; omega
            case qc3 => have := HB2.out.size; rw [World.size_alloc] at this; exact this
            intro v' w5 g1 g2 _ g4
            have hs5 := HSP2.out.sep (by rw [List.append_assoc]; exact g1) g2 (by first | exact g4 | (rw [World.size_alloc]; exact g4))
            obtain ⟨gb', cap', rfl⟩ : ∃ gb' cap', v' = .slice (some ⟨gb', 0, none⟩) (d.length + 1 + 1) cap' := by
              obtain ⟨_, ⟨_, h0⟩ | ⟨g', c', _, h, _⟩⟩ := g1
              · omega
              · exact ⟨g', c', h⟩
            have HS5 := Lib.hid hs5
            have HB5 := Lib.hid (below_grown HB2.out (Nat.le_refl _) g2 (fun b hb => (owned_cells HSP2.out.own hb).1))
            have HWS5 := Lib.hid (Nat.le_trans HWS2.out g2.size)
            have HKE5 : Hid (∀ b, w.heap.size < b → b < W1.heap.size → w5.heap[b]? = W1.heap[b]?) := Lib.hid (fun b h1 h2 => (g2.block b (Nat.lt_of_lt_of_le h2 HWS2.out) (fun e => (HSP2.out.hv b e.symm).1 ⟨h1, h2⟩)).trans (HKE2.out b h1 h2))
            clear hs5 g1 g2 g4 HSP2 HB2 HWS2 HKE2 HNEW
            go_wp2_with fail
            go_meet
            rw [HNX.out]
            exact ⟨⟨gb', cap', by simp⟩, Lib.hid ⟨⟨vs ++ [cv], _, _, HS5.out⟩, HB5.out, HWS5.out, HKE5.out⟩⟩
    · obtain rfl : k = l.length := by omega
      have HFIN : Hid (PcRead wr (fun _ => True) (.slice (some ⟨gb, 0, none⟩) ((splitK s l l.length).1.length + 1) cap) (splitP s l)) := Lib.hid (by
        obtain ⟨⟨vs, cv, xs', hsp⟩, _⟩ := HI.out
        exact hsp.fin)
      go_wp2_with fail
      go_ret
      exact ⟨_, rfl, HFIN.out, HI.out.2.1⟩
end Go.Proofs.YtopbmndjnjnmcaaGreatDoor
namespace Go.Proofs.YtopbmndjnjnmcaaGreatDoor
open Go.RowKit Lx Go.Sort
/- (L11) -/
attribute [local go_sem] Oper.semAt_some
set_option maxRecDepth 100000 in
set_option maxHeartbeats 4000000 in
/-- **isSign** of the reference -/
theorem rIsSign_any (f : Fr) (s : ByteArray) (ka : Option Addr) (kn kc : Nat) (w : World) :
    Calls Tryz.prog 64 #[.agg #[.int .i64 f.tok.kind, .int .i64 f.tok.num, .string f.tok.text, .int .i64 f.tok.at_, .int .i64 f.tok.mark, .string f.op, .slice ka kn kc], .string s] w fun e W => e = .returned (.bool (isSep s f)) ∧ Below w.heap.size w W := by
  have hb1 := (Below.refl w.heap.size w).alloc (Nat.le_refl _) (.cells #[.int .i64 f.tok.kind, .int .i64 f.tok.num, .string f.tok.text, .int .i64 f.tok.at_, .int .i64 f.tok.mark, .string f.op, .slice ka kn kc] 52)
  have HB1 := Lib.hid hb1
  obtain ⟨x0, x1, x2, x3, x4, x5, x6⟩ := fr_cells (heap_alloc_new w (.cells #[.int .i64 f.tok.kind, .int .i64 f.tok.num, .string f.tok.text, .int .i64 f.tok.at_, .int .i64 f.tok.mark, .string f.op, .slice ka kn kc] 52))
  have hse : isSep s f = (f.op.toList.isEmpty && ((f.tok.kind == 5) && (f.tok.text.toList == s.toList))) := by unfold isSep; cases f.op.toList <;> rfl
  have HSE := Lib.hid hse
  obtain ⟨bS, hbS⟩ : ∃ b, isSep s f = b := ⟨_, rfl⟩
  rw [hbS] at HSE ⊢
  clear hb1 hse hbS
  cases e1 : f.op.toList.isEmpty
  · obtain rfl : bS = false := by rw [HSE.out, e1]; rfl
    go_enter Tryz.func64, Tryz.ntmps64
    go_wp2_with fail
    go_ret
    exact ⟨rfl, HB1.out⟩
  · cases e2 : (f.tok.kind == 5)
    · obtain rfl : bS = false := by rw [HSE.out, e1, e2]; rfl
      go_enter Tryz.func64, Tryz.ntmps64
      go_wp2_with fail
      go_ret
      exact ⟨rfl, HB1.out⟩
    · obtain rfl : bS = (f.tok.text.toList == s.toList) := by rw [HSE.out, e1, e2]; rfl
      go_enter Tryz.func64, Tryz.ntmps64
      go_wp2_with fail
      go_ret
      exact ⟨rfl, HB1.out⟩
section
variable {base : Nat} {K : Nat → Prop} {d : List (List Fr)} {cur : List Fr} {f : Fr} {kv0 cv : Value} {vs xs : List Value} {w W w10 : World} {gb cap g1 cap1 : Nat} {o : Obj}
theorem sp_done3 (h : SpI base K d cur (.slice (some ⟨gb, 0, none⟩) (d.length + 1) cap) vs cv xs W) (hf : FrRead W K kv0 f.kids) (hB : base ≤ W.heap.size) (hbw : Below base w W)
    (h1 : w10.ownsRow base 52 7 (.slice (some ⟨g1, 0, none⟩) (cur.length + 1) cap1) (cur.length + 1) (xs ++ frC f.tok f.op kv0))
    (hg : (W.alloc o).drew.grownBy w10 cv.ownBlock) (hat : cv.ownBlock = some g1 ∨ g1 = W.heap.size + 1) :
    ∀ F, F = (w10.setCell ⟨gb, d.length, none⟩ (.slice (some ⟨g1, 0, none⟩) (cur.length + 1) cap1)) →
      SpI base K d (cur ++ [f]) (.slice (some ⟨gb, 0, none⟩) (d.length + 1) cap) vs (.slice (some ⟨g1, 0, none⟩) (cur.length + 1) cap1) (xs ++ frC f.tok f.op kv0) F ∧ Below base w F := by
  intro F hF
  have hgb : gb < W.heap.size := own_lt h.own rfl
  obtain ⟨hBgb, _⟩ := owned_cells h.own (b := gb) rfl
  obtain ⟨hBg1, _⟩ := owned_cells h1 (b := g1) rfl
  have hcg : cv.ownBlock ≠ some gb := (h.hv gb rfl).2
  have hne : g1 ≠ gb := fun e => by
    rcases hat with h9 | h9
    · rw [e] at h9; exact hcg h9
    · omega
  have hszd : (W.alloc o).drew.heap.size = W.heap.size + 1 := by show (W.alloc o).heap.size = _; rw [World.size_alloc]
  have hsz10 := hg.size
  rw [hszd] at hsz10
  have hba : Below W.heap.size W (W.alloc o).drew := ((Below.refl W.heap.size W).alloc (Nat.le_refl _) o).drew
  have h10 : ∀ b, b < W.heap.size → cv.ownBlock ≠ some b → w10.heap[b]? = W.heap[b]? := fun b hlt hn => (hg.block b (by omega) (Ne.symm hn)).trans (hba.block b hlt)
  have hO : w10.ownsRow base 25 1 (.slice (some ⟨gb, 0, none⟩) (d.length + 1) cap) (d.length + 1) (vs ++ [cv]) := owns_keep h.own fun b hb => by
    cases hb
    exact h10 gb hgb hcg
  have hO2 := owns_set1 (a := .slice (some ⟨g1, 0, none⟩) (cur.length + 1) cap1) hO d.length
  rw [List.set_append_right _ _ (by rw [h.len]; exact Nat.le_refl _), h.len, Nat.sub_self] at hO2
  rw [← hF] at hO2
  have hbl : Below base w w10 := ((hbw.trans (hba.mono hB))).grown hg (by rw [hszd]; omega) (fun k e => (owned_cells h.row e).1)
  have hcF : ∀ b, b < W.heap.size → gb ≠ b → cv.ownBlock ≠ some b → F.heap[b]? = W.heap[b]? := fun b hlt hv hc => by
    rw [hF, set_ne _ _ _ _ (Ne.symm hv)]
    exact h10 b hlt hc
  refine ⟨h.put hf (by rw [hF]; exact ownsRow_setCell_other h1 (by simpa [Value.ownBlock] using hne) _) hO2 (fun b hlt hv hc => hcF b hlt (fun e => hv (by rw [← e]; rfl)) hc) (by rw [hF, set_size]; omega) (fun b hb e => by cases hb; cases e; exact hne rfl) ?_, ?_⟩
  · rcases hat with h9 | h9
    · exact .inl h9.symm
    · exact .inr fun b e => by cases e; show W.heap.size ≤ g1; omega
  · rw [hF]
    exact hbl.setCell hBgb _
end
end Go.Proofs.YtopbmndjnjnmcaaGreatDoor
namespace Go.Proofs.YtopbmndjnjnmcaaGreatDoor
open Go.RowKit Lx Go.Sort
/- (L12) -/
attribute [local go_sem] Oper.semAt_some
theorem sp_two {a b c d : Prop} (q : a ∧ b ∧ c ∧ d) : a ∧ b := ⟨q.1, q.2.1⟩
/-- What the reference's loop of Split holds. -/
def SpR (w : World) (d : List (List Fr)) (cur : List Fr) (v : Value) (F : World) : Prop :=
  (∃ vs cv xs', SpI w.heap.size (fun b => b < w.heap.size) d cur v vs cv xs' F) ∧ Below w.heap.size w F
set_option maxRecDepth 100000 in
set_option maxHeartbeats 16000000 in
/-- **Split** of the reference -/
theorem rSplit_any (S : Nat → Prop) (l : List Fr) (s : ByteArray) (v : Value) (w : World) (hr : FrRead w S v l) (hlen : l.length * 88 + 88 ≤ 140737488355328) :
    Calls Tryz.prog 36 #[v, .string s] w fun e W => ∃ v', e = .returned v' ∧ PcRead W (fun _ => True) v' (splitP s l) ∧ Below w.heap.size w W := by
  obtain ⟨i0, hi0, hz0, hz1, hz2⟩ := info_parts info52
  obtain ⟨j0, hj0, hy0, hy1, hy2⟩ := info_parts info25
  have HLL := Lib.hid hlen
  have hm : l.length ≤ maxLen := by obtain ⟨_, _, _, _, _, h, _⟩ := hr; exact h.1
  unfold maxLen at hm
  have hr2 : FrRead w (fun b => b < w.heap.size) v l := hr.keep fun b _ hlt => ⟨rfl, hlt⟩
  have HR := Lib.hid hr2
  obtain ⟨va, vc, _, _, rfl, h9⟩ := hr
  clear h9 hr2 hlen
  have hba := (Below.refl w.heap.size w).alloc (Nat.le_refl _) (.cells #[.slice none 0 0] 25)
  have hsa : (w.alloc (.cells #[.slice none 0 0] 25)).heap.size = w.heap.size + 1 := World.size_alloc _ _
  have HST : Hid (SpR w [] [] (.slice (some ⟨w.heap.size, 0, none⟩) 1 1) (w.alloc (.cells #[.slice none 0 0] 25))) := Lib.hid ⟨⟨[], .slice none 0 0, [], by
    refine ⟨World.ownsRow_lit (base := w.heap.size) (e := 25) (size := 1) w #[.slice none 0 0] 1 (Nat.le_refl _) (by unfold maxLen; omega) rfl, rfl, fun i p hi => by simp at hi, World.ownsRow_nil _ _ _ _, rfl, fun b hb => by rw [hsa]; exact Nat.lt_succ_of_lt hb, fun b hb => ⟨fun hk => ?_, fun e => by cases e⟩, fun b hb => by cases hb⟩
    cases hb; exact Nat.lt_irrefl _ hk⟩, hba⟩
  clear hba hsa
  go_enter Tryz.func36, Tryz.ntmps36
  go_wp2_with fail
  go_loopw [5, 6] (fun y x wr => ∃ k : Nat, k ≤ l.length ∧ x = .int .i64 k ∧ (∃ gb cap, y = .slice (some ⟨gb, 0, none⟩) ((splitK s l k).1.length + 1) cap) ∧ Hid (SpR w (splitK s l k).1 (splitK s l k).2 y wr)) (fun _ x _ => l.length - (intOf x).toNat)
  case atStart => exact ⟨0, by omega, rfl, ⟨_, _, rfl⟩, HST⟩
  case round =>
    obtain ⟨k, hk, rfl, ⟨gb, cap, rfl⟩, HI⟩ := hrel
    by_cases hlt : k < l.length
    · obtain ⟨f, hf⟩ : ∃ f, l[k]? = some f := ⟨_, List.getElem?_eq_getElem hlt⟩
      have k1 : (k : Int) < (l.length : Int) := by omega
      obtain ⟨⟨vs, cv, xs', hsp⟩, hbel⟩ := HI.out
      have hrw := HR.out.bl hbel
      have hne : l ≠ [] := by intro h; rw [h] at hlt; simp at hlt
      obtain ⟨a', c', g, o, hv', _, ha', hat'⟩ := hrw
      cases hv'
      cases ha' hne
      obtain ⟨kv, hgS, hgl, c0, c1, c2, c3, c4, c5, c6, hkr⟩ := hat'.get hf
      obtain ⟨ka, kc, hkf⟩ : ∃ a c, kv = .slice a f.kids.length c := by obtain ⟨a, c, _, _, h, _⟩ := hkr; exact ⟨a, c, h⟩
      subst hkf
      have hsl := splitK_len s l k
      have hst : splitK s l (k + 1) = if isSep s f = true then ((splitK s l k).1 ++ [(splitK s l k).2], []) else ((splitK s l k).1, (splitK s l k).2 ++ [f]) := by rw [splitK, hf]
      have HST1 := Lib.hid hst
      obtain ⟨d, hd⟩ : ∃ d, (splitK s l k).1 = d := ⟨_, rfl⟩
      obtain ⟨cur, hcur⟩ : ∃ cur, (splitK s l k).2 = cur := ⟨_, rfl⟩
      rw [hd, hcur] at hsp HST1
      rw [hd, hcur] at hsl
      rw [hd]
      have HSP := Lib.hid hsp
      have HKR := Lib.hid hkr
      have HBL := Lib.hid hbel
      have HSL := Lib.hid hsl
      have HGS := Lib.hid hgS
      have hw64 : wrap64 (d.length : Int) = d.length := by
        have := HLL.out
        unfold wrap64; omega
      obtain ⟨bS, hbS⟩ : ∃ b, isSep s f = b := ⟨_, rfl⟩
      rw [hbS] at HST1
      have HBS := Lib.hid hbS
      clear hsp hkr hbel hst hd hcur hsl hat' ha' hbS hgS
      have C0 := Lib.hid c0
      have C1 := Lib.hid c1
      have C2 := Lib.hid c2
      have C3 := Lib.hid c3
      have C4 := Lib.hid c4
      have C5 := Lib.hid c5
      have C6 := Lib.hid c6
      go_upto_block 1 with fail
      go_cut [5] from 14 to 60 (fun y wy => (∃ gb cap, y = .slice (some ⟨gb, 0, none⟩) ((splitK s l (k + 1)).1.length + 1) cap) ∧ Hid (SpR w (splitK s l (k + 1)).1 (splitK s l (k + 1)).2 y wy))
      case rest =>
        obtain ⟨⟨gb', cap', rfl⟩, HSPE⟩ := hcut
        clear c0 c1 c2 c3 c4 c5 c6
        go_wp2_with fail
        go_roundw
        case rel => exact ⟨k + 1, by omega, by go_num, ⟨gb', cap', rfl⟩, HSPE⟩
        case measure => simp [intOf]; omega
      case first =>
        go_wp2_with fail
        go_at_call 64
        refine (rIsSign_any f s ka f.kids.length kc wr).mono ?_
        rintro e W2 ⟨rfl, hb⟩
        rw [HBS.out]
        have HSP2 := Lib.hid (HSP.out.bl hb)
        have HKR2 := Lib.hid (HKR.out.bl hb)
        have HB2 := Lib.hid (HBL.out.trans (hb.mono HBL.out.size))
        have m0 := (hb.cell (p := ⟨g, o + k * 7, none⟩) hgl).trans C0.out
        have m1 := (hb.cell (p := ⟨g, o + k * 7 + 1, none⟩) hgl).trans C1.out
        have m2 := (hb.cell (p := ⟨g, o + k * 7 + 2, none⟩) hgl).trans C2.out
        have m3 := (hb.cell (p := ⟨g, o + k * 7 + 3, none⟩) hgl).trans C3.out
        have m4 := (hb.cell (p := ⟨g, o + k * 7 + 4, none⟩) hgl).trans C4.out
        have m5 := (hb.cell (p := ⟨g, o + k * 7 + 5, none⟩) hgl).trans C5.out
        have m6 := (hb.cell (p := ⟨g, o + k * 7 + 6, none⟩) hgl).trans C6.out
        have hgl2 := Nat.lt_of_lt_of_le hgl hb.size
        clear hb c0 c1 c2 c3 c4 c5 c6 HSP HKR HBL hgl
        cases bS
        · have hnx : splitK s l (k + 1) = (d, cur ++ [f]) := by rw [HST1.out]; rfl
          have HNX := Lib.hid hnx
          clear hnx
          go_upto_region 7 with fail
          go_cut [24] from 23 to 24 (fun v wx => (∃ b, v = .bool b) ∧ Hid (Below W2.heap.size W2 wx))
          case first =>
            go_region
            all_goals
              go_wp2_with fail
              go_meet
              exact ⟨⟨_, rfl⟩, Lib.hid ((Below.refl W2.heap.size W2).alloc (Nat.le_refl _) _).drew⟩
          case rest =>
            obtain ⟨⟨b, rfl⟩, HB7⟩ := hcut
            have hb := HB7.out
            have HSP7 := Lib.hid (HSP2.out.bl hb)
            have HKR7 := Lib.hid (HKR2.out.bl hb)
            have HB8 := Lib.hid (HB2.out.trans (hb.mono HB2.out.size))
            have n0 := (hb.cell (p := ⟨g, o + k * 7, none⟩) hgl2).trans m0
            have n1 := (hb.cell (p := ⟨g, o + k * 7 + 1, none⟩) hgl2).trans m1
            have n2 := (hb.cell (p := ⟨g, o + k * 7 + 2, none⟩) hgl2).trans m2
            have n3 := (hb.cell (p := ⟨g, o + k * 7 + 3, none⟩) hgl2).trans m3
            have n4 := (hb.cell (p := ⟨g, o + k * 7 + 4, none⟩) hgl2).trans m4
            have n5 := (hb.cell (p := ⟨g, o + k * 7 + 5, none⟩) hgl2).trans m5
            have n6 := (hb.cell (p := ⟨g, o + k * 7 + 6, none⟩) hgl2).trans m6
            have hgl3 := Nat.lt_of_lt_of_le hgl2 hb.size
            clear hb m0 m1 m2 m3 m4 m5 m6 hgl2 HB7 HB2 HSP2 HKR2
            have k6 : wc.cell? ⟨gb, d.length, none⟩ = some cv := own_at HSP7.out.own (by rw [List.getElem?_append_right (by rw [HSP7.out.len]; exact Nat.le_refl _), HSP7.out.len, Nat.sub_self]; rfl)
            have hfz : wc.frozen? ⟨gb, d.length, none⟩ = false := HSP7.out.own.frozenAt _
            have hgb2 : gb < wc.heap.size := own_lt HSP7.out.own rfl
            obtain ⟨va9, vc9, hcv⟩ : ∃ a c, cv = .slice a cur.length c := own_form' HSP7.out.row
            have HCV := Lib.hid hcv
            have HCG := Lib.hid (HSP7.out.hv gb rfl).2
            have HXL := Lib.hid HSP7.out.kids.len
            have HRW := Lib.hid HSP7.out.row
            have hBs : w.heap.size ≤ wc.heap.size := HB8.out.size
            have HBS := Lib.hid hBs
            rw [HCV.out] at k6
            have i1 : (cur.length : Int) < (cur.length : Int) + 1 := by omega
            have i2 : cur.length < cur.length + 1 := by omega
            have i3 : (0 : Int) ≤ (cur.length : Int) := by omega
            have i4 : (d.length : Int) < (d.length : Int) + 1 := by omega
            have i5 : (0 : Int) ≤ (d.length : Int) := by omega
            have i6 : (0 : Int) ≤ (k : Int) := by omega
            have hwk : IntKind.i64.wrap (d.length : Int) = d.length := by rw [IntKind.wrap_i64]; have := HSL.out; have := HLL.out; omega
            have HCA : Hid (∀ g', cv.ownBlock = some g' → g ≠ g') := Lib.hid (fun g' e => by have := (owned_cells HSP7.out.row e).1; have := HGS.out; omega)
            have FIN : Hid (∀ g1 cap1 xs2 F, SpI w.heap.size (fun b => b < w.heap.size) d (cur ++ [f]) (.slice (some ⟨gb, 0, none⟩) (d.length + 1) cap) vs (.slice (some ⟨g1, 0, none⟩) (cur.length + 1) cap1) xs2 F ∧ Below w.heap.size w F → SpR w d (cur ++ [f]) (.slice (some ⟨gb, 0, none⟩) (d.length + 1) cap) F) := Lib.hid (fun g1 cap1 xs2 F q => ⟨⟨vs, _, _, q.1⟩, q.2⟩)
            clear hBs hcv
            cases b
            · go_upto_region 10 with fail
              go_region_law (first
                | (refine step_append_lies _ (by rfl) _ _ _ (by rfl) w.heap.size 52 i0 _ 7 88 Tryz.underlying25 hi0 hz0 hz1 hz2 rfl (by omega) cv cur.length xs' (by exact HCV.out.symm) ((HRW.out.alloc _).drew) ⟨wc.heap.size, 0, none⟩ 1 1 (frC f.tok f.op (.slice ka f.kids.length kc)) (by rfl) (by rfl) (World.news_of_block (cs := #[.int .i64 f.tok.kind, .int .i64 f.tok.num, .string f.tok.text, .int .i64 f.tok.at_, .int .i64 f.tok.mark, .string f.op, .slice ka f.kids.length kc]) (t := 52) (fr := (0, 0)) (heap_alloc_new wc _)) (by simp [frC, Value.oneCell']) (by omega) (by have := HSL.out; have := HLL.out; unfold maxLen; omega) (by have := HSL.out; have := HLL.out; omega) (by show w.heap.size ≤ (wc.alloc _).heap.size; rw [World.size_alloc]; exact Nat.le_succ_of_le HBS.out) (wc.heap.size + 1) (World.size_alloc _ _) ?_; intro g1 cap1 w10 hown1 hgrow hat hgl; have k7 : w10.cell? ⟨gb, d.length, none⟩ = _ := (hgrow.cell_far ⟨gb, d.length, none⟩ (by show gb < (wc.alloc _).heap.size; rw [World.size_alloc]; omega) (Ne.symm HCG.out)).trans ((Below.heap_alloc_cell wc _ ⟨gb, d.length, none⟩ hgb2).trans k6); have kz := (hgrow.frozen_far ⟨gb, d.length, none⟩ (by show gb < (wc.alloc _).heap.size; rw [World.size_alloc]; omega) (Ne.symm HCG.out)).trans ((((Below.refl wc.heap.size wc).alloc (Nat.le_refl _) _).frozen (p := ⟨gb, d.length, none⟩) hgb2).trans hfz)))
              all_goals
                simp only [Exit.inBlock, Exit.then]
                go_step
                go_meet
                rw [HNX.out]
                refine ⟨⟨gb, cap, rfl⟩, Lib.hid ?_⟩
                with_reducible exact FIN.out _ _ _ _ (sp_done3 HSP7.out HKR7.out HBS.out HB8.out hown1 hgrow hat _ rfl)
            · go_upto_region 8 with fail
              go_cut [38, 39, 41] from 25 to 42 (fun x y z wy => x = .agg #[.int .i64 f.tok.kind, .int .i64 f.tok.num, .string f.tok.text, .int .i64 f.tok.at_, .int .i64 f.tok.mark, .string f.op, .slice ka f.kids.length kc] ∧ y = .int .i64 cur.length ∧ ∃ g1 cap1, z = .slice (some ⟨g1, 0, none⟩) (cur.length + 1) cap1 ∧ Hid (∃ w10, wy = w10.setCell ⟨gb, d.length, none⟩ (.slice (some ⟨g1, 0, none⟩) (cur.length + 1) cap1) ∧ w10.ownsRow w.heap.size 52 7 (.slice (some ⟨g1, 0, none⟩) (cur.length + 1) cap1) (cur.length + 1) (xs' ++ zFrag) ∧ (wc.alloc (.cells #[.int .i64 0, .int .i64 0, .string ⟨#[]⟩, .int .i64 0, .int .i64 0, .string ⟨#[]⟩, .slice none 0 0] 52)).drew.grownBy w10 cv.ownBlock ∧ (cv.ownBlock = some g1 ∨ g1 = wc.heap.size + 1)))
              case first =>
                go_region_law (first
                  | (refine step_append_lies _ (by rfl) _ _ _ (by rfl) w.heap.size 52 i0 _ 7 88 Tryz.underlying25 hi0 hz0 hz1 hz2 rfl (by omega) cv cur.length xs' (by exact HCV.out.symm) ((HRW.out.alloc _).drew) ⟨wc.heap.size, 0, none⟩ 1 1 zFrag (by rfl) (by rfl) (World.news_of_block (cs := zFrag.toArray) (t := 52) (fr := (0, 0)) (heap_alloc_new wc _)) (by simp [zFrag, Value.oneCell']) (by omega) (by have := HSL.out; have := HLL.out; unfold maxLen; omega) (by have := HSL.out; have := HLL.out; omega) (by show w.heap.size ≤ (wc.alloc _).heap.size; rw [World.size_alloc]; exact Nat.le_succ_of_le HBS.out) (wc.heap.size + 1) (World.size_alloc _ _) ?_; intro g1 cap1 w10 hown1 hgrow hat hgl; have k7 : w10.cell? ⟨gb, d.length, none⟩ = _ := (hgrow.cell_far ⟨gb, d.length, none⟩ (by show gb < (wc.alloc _).heap.size; rw [World.size_alloc]; omega) (Ne.symm HCG.out)).trans ((Below.heap_alloc_cell wc _ ⟨gb, d.length, none⟩ hgb2).trans k6); have kz := (hgrow.frozen_far ⟨gb, d.length, none⟩ (by show gb < (wc.alloc _).heap.size; rw [World.size_alloc]; omega) (Ne.symm HCG.out)).trans ((((Below.refl wc.heap.size wc).alloc (Nat.le_refl _) _).frozen (p := ⟨gb, d.length, none⟩) hgb2).trans hfz)))
                all_goals
                  simp only [Exit.then]
                  go_step
                  go_meet
                  with_reducible exact ⟨rfl, rfl, _, _, rfl, Lib.hid ⟨_, rfl, hown1, hgrow, hat⟩⟩
              case rest =>
                obtain ⟨rfl, rfl, g1, cap1, rfl, HWX⟩ := hcut
                obtain ⟨w10, hwy, hown1, hgrow, hat⟩ := HWX.out
                have hne : g1 ≠ gb := by
                  rcases hat with h9 | h9
                  · intro e; rw [e] at h9; exact HCG.out h9
                  · omega
                have hne2 := Ne.symm hne
                have fz := hown1.frozenAt
                have z0 := added_cells HXL.out hown1
                subst hwy
                clear HWX k6 hfz n0 n1 n2 n3 n4 n5 n6
                go_wp2_with fail
                go_meet
                rw [HNX.out]
                refine ⟨⟨gb, cap, rfl⟩, Lib.hid ?_⟩
                with_reducible exact FIN.out _ _ _ _ (sp_two (sp_done2 HSP7.out HKR7.out HBS.out HB8.out hown1 hgrow hat hne _ rfl))
        · have hnx : splitK s l (k + 1) = (d ++ [cur], []) := by rw [HST1.out]; rfl
          have HNX := Lib.hid hnx
          clear hnx m0 m1 m2 m3 m4 m5 m6
          have hb2 := (Below.refl W2.heap.size W2).alloc (Nat.le_refl _) (.cells #[.slice none 0 0] 25)
          have HSP3 := Lib.hid (HSP2.out.bl hb2)
          have HB3 := Lib.hid (HB2.out.trans (hb2.mono HB2.out.size))
          have HNEW : Hid (∀ j u, [Value.slice none 0 0][j]? = some u → (W2.alloc (.cells #[.slice none 0 0] 25)).cell? ((⟨W2.heap.size, 0, none⟩ : Addr).add j) = some u) := Lib.hid (cell_one_new _ _ _)
          clear hb2
          go_wp2_with (at_builtin; refine wpList_append_own_at _ rfl _ _ 42 rfl w.heap.size 25 j0 _ 1 24 Tryz.underlying42 hj0 hy0 hy1 hy2 rfl (by omega) (.slice (some ⟨gb, 0, none⟩) (d.length + 1) cap) (d.length + 1) (vs ++ [cv]) (by rfl) HSP3.out.own ⟨W2.heap.size, 0, none⟩ 1 1 [.slice none 0 0] (by rfl) (by rfl) HNEW.out (by simp [Value.oneCell']) ?qc1 ?qc2 ?qc3 ?_)
          case qc1 => have := HSL.out; have := HLL.out; unfold maxLen; omega
          case qc2 => have := HSL.out; have := HLL.out; omega
          case qc3 => exact HB3.out.size
          intro v' w5 g1 g2 _ g4
          have hs5 := HSP3.out.sep (by rw [List.append_assoc]; exact g1) g2 (by first | exact g4 | (rw [World.size_alloc]; exact g4))
          obtain ⟨gb', cap', rfl⟩ : ∃ gb' cap', v' = .slice (some ⟨gb', 0, none⟩) (d.length + 1 + 1) cap' := by
            obtain ⟨_, ⟨_, h0⟩ | ⟨g', c', _, h, _⟩⟩ := g1
            · omega
            · exact ⟨g', c', h⟩
          have HS5 := Lib.hid hs5
          have HB5 := Lib.hid (below_grown HB3.out (Nat.le_refl _) g2 (fun b hb => (owned_cells HSP3.out.own hb).1))
          clear hs5 g1 g2 g4 HSP3 HB3 HNEW
          go_wp2_with fail
          go_meet
          rw [HNX.out]
          exact ⟨⟨gb', cap', by simp⟩, Lib.hid ⟨⟨vs ++ [cv], _, _, HS5.out⟩, HB5.out⟩⟩
    · obtain rfl : k = l.length := by omega
      have HFIN : Hid (PcRead wr (fun _ => True) (.slice (some ⟨gb, 0, none⟩) ((splitK s l l.length).1.length + 1) cap) (splitP s l)) := Lib.hid (by
        obtain ⟨⟨vs, cv, xs', hsp⟩, _⟩ := HI.out
        exact hsp.fin)
      go_wp2_with fail
      go_ret
      exact ⟨_, rfl, HFIN.out, HI.out.2⟩
end Go.Proofs.YtopbmndjnjnmcaaGreatDoor
namespace Go.Proofs.YtopbmndjnjnmcaaGreatDoor
open Go.RowKit Lx Go.Sort
/- (L13) -/
attribute [local go_sem] Oper.semAt_some
theorem pc_four {w : World} {S S2 : Nat → Prop} {l l2 : List Fr} {v v2 : Value} {W : World} (hr : FrRead w S v l) (hr2 : FrRead w S2 v2 l2) (hn : ∀ n c, v = .slice none n c → c = 0) (hn2 : ∀ n c, v2 = .slice none n c → c = 0) (hb : Below w.heap.size w W) :
    PcRead (W.alloc (.cells #[v, v2, .slice none 0 0, v] 25)) (fun _ => True) (.slice (some ⟨W.heap.size, 0, none⟩) 4 4) [l, l2, [], l] := by
  have hba := (Below.refl W.heap.size W).alloc (Nat.le_refl _) (.cells #[v, v2, .slice none 0 0, v] 25)
  have hN := heap_alloc_new W (.cells #[v, v2, .slice none 0 0, v] 25)
  have hs : W.heap.size < (W.alloc (.cells #[v, v2, .slice none 0 0, v] 25)).heap.size := by rw [World.size_alloc]; omega
  have r1 : FrRead (W.alloc (.cells #[v, v2, .slice none 0 0, v] 25)) (fun _ => True) v l := ((hr.bl hb).bl hba).all
  have r2 : FrRead (W.alloc (.cells #[v, v2, .slice none 0 0, v] 25)) (fun _ => True) v2 l2 := ((hr2.bl hb).bl hba).all
  have hc : ∀ i u, (#[v, v2, Value.slice none 0 0, v] : Array Value)[i]? = some u → (W.alloc (.cells #[v, v2, .slice none 0 0, v] 25)).cell? ⟨W.heap.size, 0 + i, none⟩ = some u := fun i u hi => by
    rw [cell_of_row _ _ _ _ _ _ hN, Nat.zero_add]; exact hi
  refine ⟨some ⟨W.heap.size, 0, none⟩, 4, rfl, by simp [maxLen], fun k p hk => ?_⟩
  match k, hk with
  | 0, hk => cases hk; exact ⟨_, 0, v, rfl, hs, hc 0 v rfl, hn, r1⟩
  | 1, hk => cases hk; exact ⟨_, 0, v2, rfl, hs, hc 1 v2 rfl, hn2, r2⟩
  | 2, hk => cases hk; exact ⟨_, 0, .slice none 0 0, rfl, hs, hc 2 _ rfl, fun n c h => by cases h; rfl, .nil _ _ _ _⟩
  | 3, hk => cases hk; exact ⟨_, 0, v, rfl, hs, hc 3 v rfl, hn, r1⟩
  | k + 4, hk => simp at hk
theorem join_four (s : ByteArray) (l l2 : List Fr) : (joinK s [l, l2, [], l] 4).length = 2 * l.length + l2.length + 3 := by
  simp [joinK]; omega
set_option maxRecDepth 100000 in
set_option maxHeartbeats 16000000 in
/-- **FragLists** -/
theorem fragLists_any (S S2 : Nat → Prop) (l l2 : List Fr) (s : ByteArray) (v v2 : Value) (w : World) (he : Env w) (hr : FrRead w S v l) (hr2 : FrRead w S2 v2 l2) (hn : ∀ n c, v = .slice none n c → c = 0) (hn2 : ∀ n c, v2 = .slice none n c → c = 0)
    (hl : Lens l) (hl2 : Lens l2) (hlen : (2 * l.length + l2.length + 3) * 88 ≤ 140737488355328) :
    Calls Tryz.prog 5 #[v, v2, .string s] w fun e W => e = .returned (.bool true) ∧ Below w.heap.size w W := by
  have HE := Lib.hid he
  have HR := Lib.hid hr
  have HR2 := Lib.hid hr2
  have HL := Lib.hid hl
  have HL2 := Lib.hid hl2
  have HN := Lib.hid hn
  have HN2 := Lib.hid hn2
  have HB0 : Hid (l.length * 88 + 88 ≤ 140737488355328) := Lib.hid (by omega)
  have HBJ : Hid ((joinK s [l, l2, [], l] [l, l2, [], l].length).length * 88 ≤ 140737488355328) := Lib.hid (by rw [show [l, l2, [], l].length = 4 from rfl, join_four]; exact hlen)
  have HLP : Hid (∀ p ∈ [l, l2, [], l], Lens p) := Lib.hid (by
    intro p hp
    simp only [List.mem_cons, List.not_mem_nil, or_false] at hp
    rcases hp with rfl | rfl | rfl | rfl
    · exact hl
    · exact hl2
    · exact lens_nil
    · exact hl)
  obtain ⟨a, c, _, _, rfl, _⟩ := hr
  obtain ⟨a2, c2, _, _, rfl, _⟩ := hr2
  obtain ⟨R, hR⟩ : ∃ R, sameP l l2 = R := ⟨_, rfl⟩
  have HSR := Lib.hid hR
  clear he hn hn2 hl hl2 hlen hR
  have e1 : (R == R) = true := by simp
  go_enter Tryz.func5, Tryz.ntmps5
  go_wp2_with fail
  go_at_call 14
  refine (sane02_any _ HE.out).mono ?_
  rintro e W1 ⟨rfl, hb⟩
  have B1 := Lib.hid hb
  clear hb
  have HPC := Lib.hid (pc_four (W := W1) HR.out HR2.out HN.out HN2.out B1.out)
  have hba := (Below.refl W1.heap.size W1).alloc (Nat.le_refl _) (.cells #[.slice a l.length c, .slice a2 l2.length c2, .slice none 0 0, .slice a l.length c] 25)
  have BA := Lib.hid (B1.out.trans (hba.mono B1.out.size))
  clear hba
  go_wp2_with fail
  go_at_call 32
  refine (Same_any S S2 l l2 _ _ _ (HR.out.bl BA.out) (HR2.out.bl BA.out)).mono ?_
  rintro e W2 ⟨rfl, hb⟩
  rw [HSR.out]
  have B2 := Lib.hid (BA.out.trans (hb.mono BA.out.size))
  have HPC2 := Lib.hid (HPC.out.bl hb)
  clear hb
  go_wp2_with fail
  go_at_call 33
  refine (refSame_any S S2 l l2 _ _ _ (HR.out.bl B2.out) (HR2.out.bl B2.out)).mono ?_
  rintro e W3 ⟨rfl, hb⟩
  rw [HSR.out]
  have B3 := Lib.hid (B2.out.trans (hb.mono B2.out.size))
  have HPC3 := Lib.hid (HPC2.out.bl hb)
  clear hb
  go_wp2_with fail
  go_at_call 35
  refine (split_any S l s _ _ (HR.out.bl B3.out) HL.out HB0.out).mono ?_
  rintro e W4 ⟨q, rfl, hq, hb⟩
  have B4 := Lib.hid (B3.out.trans (hb.mono B3.out.size))
  have HPC4 := Lib.hid (HPC3.out.bl hb)
  have HQ4 := Lib.hid hq
  clear hb hq
  go_wp2_with fail
  go_at_call 36
  refine (rSplit_any S l s _ _ (HR.out.bl B4.out) HB0.out).mono ?_
  rintro e W5 ⟨q2, rfl, hq, hb⟩
  have B5 := Lib.hid (B4.out.trans (hb.mono B4.out.size))
  have HPC5 := Lib.hid (HPC4.out.bl hb)
  have HQ5 := Lib.hid (HQ4.out.bl hb)
  have HU5 := Lib.hid hq
  clear hb hq
  go_wp2_with fail
  go_at_call 34
  refine (lAlike_any (fun _ => True) (fun _ => True) (splitP s l) _ _ _ HQ5.out HU5.out).mono ?_
  rintro e W6 ⟨rfl, hb⟩
  have B6 := Lib.hid (B5.out.trans (hb.mono B5.out.size))
  have HPC6 := Lib.hid (HPC5.out.bl hb)
  clear hb
  go_wp2_with fail
  go_at_call 37
  refine (fJoin_any (fun _ => True) [l, l2, [], l] s _ _ HPC6.out HLP.out HBJ.out).mono ?_
  rintro e W7 ⟨q3, rfl, hq, hb⟩
  have B7 := Lib.hid (B6.out.trans (hb.mono B6.out.size))
  have HPC7 := Lib.hid (HPC6.out.bl hb)
  have HJ7 := Lib.hid hq
  clear hb hq
  go_wp2_with fail
  go_at_call 38
  refine (rJoinL_any (fun _ => True) [l, l2, [], l] s _ _ HPC7.out HBJ.out).mono ?_
  rintro e W8 ⟨q4, rfl, hq, hb⟩
  have B8 := Lib.hid (B7.out.trans (hb.mono B7.out.size))
  have HJ8 := Lib.hid (HJ7.out.read.bl hb)
  have HK8 := Lib.hid hq.read
  clear hb hq
  go_wp2_with fail
  go_at_call 20
  refine (alikeS_any (fun _ => True) (fun _ => True) (fsz (joinK s [l, l2, [], l] [l, l2, [], l].length) + 1) (joinK s [l, l2, [], l] [l, l2, [], l].length) _ _ _ (Nat.lt_succ_self _) HJ8.out HK8.out).mono ?_
  rintro e W9 ⟨rfl, hb⟩
  have B9 := Lib.hid (B8.out.trans (hb.mono B8.out.size))
  clear hb
  go_wp2_with fail
  go_ret
  exact ⟨rfl, B9.out⟩
end Go.Proofs.YtopbmndjnjnmcaaGreatDoor
