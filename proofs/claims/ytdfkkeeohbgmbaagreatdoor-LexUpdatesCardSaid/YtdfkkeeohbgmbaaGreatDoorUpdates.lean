/- The law LexUpdates of package lex, for every text, pieces and splice: it returns true, and all three read as they did; what the library's five listed variables hold is tied to the program's text. -/
import Derived.Test.YtdfkkeeohbgmbaaGreatDoorLaid
import Derived.Test.YtdfkkeeohbgmbaaGreatDoorN14
import Derived.Lib.SmallJoins
import Derived.Carry
import Derived.Deep.Slices
import Derived.Deep.Strs
namespace Go.Proofs.YtdfkkeeohbgmbaaGreatDoor
open Go.ChangeShapes Go.WideShapes Go.ChangeAt Go.RowKit Go.Joins Go.Deep
open Go.ChangeMaps (open_string shut_string)

theorem laidOut : laidOutB Tryz.prog = true := by kernel_rfl
theorem cells40 : Tryz.prog.cellsOf 40 = 3 := by kernel_rfl
theorem cells59 : Tryz.prog.cellsOf 59 = 3 := by kernel_rfl
theorem reach_small : reachBytes ≤ 140737488351232 := by decide
theorem cellsOf3 : Tryz.prog.cellsOf 3 = 1 := by kernel_rfl
instance : Inhabited Pn := ⟨⟨0, 0, 0⟩⟩
theorem cell_lt {w : World} {a : Addr} {v : Value} (h : w.cell? a = some v) : a.block < w.heap.size := by
  unfold World.cell? at h
  split at h
  · rename_i h2; exact (Array.getElem?_eq_some_iff.1 h2).1
  · cases h

set_option maxRecDepth 100000 in
/-- A splice that is read. -/
theorem open_splice {H : Type} {enc : TypeId × Value → H} {w : World} {base : Nat} {spare : Nat → Bool} {held : Bool} {r : Reach} {b0 : Nat} {v : Value} {d : DataW H} {p : List MemPlace}
    (hv : Value.okWide Tryz.prog w r b0 40 v) (h : DataW.Trod enc Tryz.prog w base spare held 40 v d p) :
    ∃ (x y : Int) (ins : ByteArray), v = SpV x y ins ∧ d = .agg [.lit (.int .i64 x), .lit (.int .i64 y), .lit (.string ins.data.toList)] ∧ p = [] := by
  obtain ⟨v0, v1, v2, y0, y1, y2, n, rfl, rfl, rfl, h0, h1, h2⟩ := open_agg3 Tryz.underlying40 (by kernel_rfl) cells40 hv h
  obtain ⟨x, hx, rfl, _⟩ := DataW.trod_int Tryz.underlying3 h0
  obtain ⟨y, hy, rfl, _⟩ := DataW.trod_int Tryz.underlying3 h1
  obtain ⟨s, hs, rfl, _⟩ := DataW.trod_string Tryz.underlying9 h2
  simp only [List.cons.injEq, and_true] at hx hy hs
  subst hx; subst hy; subst hs
  exact ⟨x, y, s, rfl, rfl, rfl⟩

set_option maxRecDepth 100000 in
/-- Pieces that are read. -/
theorem open_pieces {H : Type} {enc : TypeId × Value → H} {w : World} {base : Nat} {spare : Nat → Bool} {held : Bool} {r : Reach} {b0 : Nat} {v : Value} {d : DataW H} {p : List MemPlace}
    (hv : Value.okWide Tryz.prog w r b0 23 v) (h : DataW.Trod enc Tryz.prog w base spare held 23 v d p) : ∃ ps : List Pn, PnRead w v ps := by
  obtain ⟨fuel, hf⟩ := h
  obtain ⟨a0, len0, cap0, rfl⟩ := okWide_slice Tryz.underlying23 hv
  rcases open_slice Tryz.underlying23 hf with ⟨hnil, _⟩ | ⟨a, len, cap, m, n, D, Pl, hcs, _, hl, hm, hmm, _, hx⟩
  · have hnil' : [Value.slice a0 len0 cap0] = [.slice none 0 0] := hnil
    simp only [List.cons.injEq, Value.slice.injEq, and_true] at hnil'
    obtain ⟨rfl, rfl, rfl⟩ := hnil'
    exact ⟨[], none, 0, rfl, ⟨by simp, by simp⟩, fun k p hk => by simp at hk⟩
  · have hcs' : [Value.slice a0 len0 cap0] = [.slice (some a) len cap] := hcs
    simp only [List.cons.injEq, Value.slice.injEq, and_true] at hcs'
    obtain ⟨rfl, rfl, rfl⟩ := hcs'
    have hlm : len0 ≤ m := by rw [hmm]; split <;> omega
    have each : ∀ i, i < len0 → ∃ q : Pn, w.cell? (a.add (i * 3)) = some (.int .i64 q.kind) ∧ w.cell? (a.add (i * 3 + 1)) = some (.int .i64 q.at_) ∧ w.cell? (a.add (i * 3 + 2)) = some (.int .i64 q.len) := by
      intro i hi
      obtain ⟨cs', h1, h2⟩ := hx i (by omega)
      rw [cells59] at h1
      obtain ⟨_, hlen, hcell⟩ := World.cells?_some h1
      obtain ⟨y0, y1, y2, n', _, _, g0, g1, g2⟩ := trod_struct3 Tryz.underlying59 h2
      match cs', hlen with
      | [v0, v1, v2], _ =>
        obtain ⟨x0, hx0, _, _⟩ := DataW.trod_int Tryz.underlying3 g0
        obtain ⟨x1, hx1, _, _⟩ := DataW.trod_int Tryz.underlying3 g1
        obtain ⟨x2, hx2, _, _⟩ := DataW.trod_int Tryz.underlying3 g2
        have e0 := hcell 0 (by omega)
        have e1 := hcell 1 (by omega)
        have e2 := hcell 2 (by omega)
        rw [add_add] at e0 e1 e2
        have hv0 : v0 = .int .i64 x0 := by simpa [cellsOf3] using hx0
        have hv1 : v1 = .int .i64 x1 := by simpa [cellsOf3] using hx1
        have hv2 : v2 = .int .i64 x2 := by simpa [cellsOf3] using hx2
        subst hv0 hv1 hv2
        exact ⟨⟨x0, x1, x2⟩, by simpa using e0, by simpa using e1, by simpa using e2⟩
    obtain ⟨q, hq⟩ := choose_lt each
    refine ⟨(List.range len0).map q, some a, cap0, by simp, ⟨by simp; omega, by simpa using hl⟩, fun k p hk => ?_⟩
    rw [List.getElem?_map, Option.map_eq_some_iff] at hk
    obtain ⟨i, hi, rfl⟩ := hk
    obtain ⟨hk1, hk2⟩ := List.getElem?_eq_some_iff.1 hi
    have hki : k = i := by simpa using hk2
    have hkl : k < len0 := by simpa using hk1
    subst hki
    obtain ⟨c0, c1, c2⟩ := hq k hkl
    obtain ⟨h00, _, _⟩ := hq 0 (by omega)
    rw [Nat.zero_mul, show a.add 0 = a from rfl] at h00
    have hsp := World.cell?_spot h00
    have hlt := cell_lt h00
    obtain ⟨b, o, sp⟩ := a
    simp only at hsp hlt
    subst hsp
    rw [add_plain] at c0 c1 c2
    exact ⟨b, o, rfl, hlt, c0, by rw [Nat.add_assoc]; exact c1, by rw [Nat.add_assoc]; exact c2⟩

namespace Updates

set_option maxRecDepth 100000 in
/-- What the walk gives, for every argument and every world that holds the variables. -/
theorem contract (H : Type) (enc : TypeId × Value → H) (W : World) (base : Nat) (args : Array Value) (ds gs : List (DataW H)) (before : List MemPlace)
    (hval : ∀ (j : Nat) t v, Tryz.f4.params[j]? = some t → args[j]? = some v → Value.okWide Tryz.prog W .any base t v)
    (hW : DataW.Whole enc Tryz.prog Tryz.f4.params.toList Rows.lexUpdatesSpec.vars false W args.toList ds gs before)
    (hz : (DataW.weightsEach Tryz.prog (Tryz.f4.params.toList ++ (OpenSpec.ofChange Rows.lexUpdatesSpec).bare.plain.varTypes Tryz.prog) (ds ++ gs)).all (· ≤ reachBytes) = true)
    (hL : laidMetH Tryz.prog laid5 W) (hs : W.ShapedOpen Tryz.prog) :
    Calls Tryz.prog 4 args W fun e W' => ∃ v, e = .returned v ∧ Rows.lexUpdatesSpec.post enc Tryz.prog Tryz.f4 false true false false W args v W' := by
  have hW' := hW
  obtain ⟨p, q, hA0, hV, rfl, hfz, hnd⟩ := hW
  have hA : DataW.TrodAll enc Tryz.prog W 0 (fun _ => true) true Tryz.f4.params.toList args.toList ds p := hA0
  rw [Tryz.params4] at hA hval
  have hAlt := DataW.TrodAll.lt hA
  obtain ⟨v0, v1, v2, d0, d1, d2, p0, p1, p2, rfl, rfl, rfl, h0, h1, h2⟩ := trodAll_three hA
  obtain ⟨rfl, rfl⟩ := trodVars_none hV
  obtain ⟨s, rfl, rfl, rfl, hsz⟩ := open_string Tryz.underlying9 (hval 0 9 v0 rfl rfl) h0
  have h1k := h1
  have h2k := h2
  obtain ⟨ps, hps⟩ := open_pieces (hval 1 23 v1 rfl rfl) h1
  obtain ⟨x, y, ins, rfl, rfl, rfl⟩ := open_splice (hval 2 40 v2 rfl rfl) h2
  clear hA0
  simp only [List.append_nil] at hW' hz
  have hw : s.data.toList.length ≤ reachBytes ∧ ins.data.toList.length ≤ reachBytes := by
    have e : (Tryz.f4.params.toList ++ (OpenSpec.ofChange Rows.lexUpdatesSpec).bare.plain.varTypes Tryz.prog) = [9, 23, 40] := by kernel_rfl
    rw [e] at hz
    simp [DataW.weightsEach, DataW.weights, Tryz.underlying40] at hz
    exact ⟨by simpa using hz.1, by simpa using hz.2.2⟩
  have hr := reach_small
  simp only [Array.length_toList, ByteArray.size_data] at hw
  refine (lexUpdates_any s ins x y v1 ps (by unfold maxLen; omega) W (env_of_laid hL hs) hps).mono fun e W' ⟨he, hb⟩ => ?_
  subst he
  exact ⟨_, rfl, _, _, _, [], _, [], hW', trodAll_mk1 (shut_bool Tryz.underlying4 _), trodAll_mk3 (shut_string Tryz.underlying9 hsz) (Below.trod laidOut (by kernel_rfl) (of_decide_eq_true (by kernel_rfl)) h1k hb (fun x hx => hAlt x (by simp [hx]))) (Below.trod laidOut (by kernel_rfl) (of_decide_eq_true (by kernel_rfl)) h2k hb (fun x hx => by cases hx)), rfl, hb.frame _, fun h => by cases h⟩

theorem reads (os : Os) {H : Type} (enc : TypeId × Value → H) : ∃ places, DataW.whole enc Tryz.prog ((World.doorLaid Tryz.prog 4000 os).forCall (fun _ _ => 0) ⟨#[], #[.string ⟨#[]⟩, .slice none 0 0, SpV 0 0 ⟨#[]⟩], []⟩).memory Tryz.f4.params.toList Rows.lexUpdatesSpec.vars false #[Value.string ⟨#[]⟩, .slice none 0 0, SpV 0 0 ⟨#[]⟩].toList 8 = some ([.lit (.string []), .nil, .agg [.lit (.int .i64 0), .lit (.int .i64 0), .lit (.string [])]], [], places) :=
  ⟨[], by kernel_rfl⟩

set_option maxRecDepth 100000 in
theorem lifted (os : Os) (started : os.Started) (H : Type) (enc : TypeId × Value → H) (F : Stop.Interp) :
    ReturnsInHanded {} Tryz.checked os 4 .any ((OpenSpec.ofChange Rows.lexUpdatesSpec).preRow enc Tryz.prog Tryz.f4 Rows.lexUpdatesRow.domain false Rows.lexUpdatesRow.laid) (((OpenSpec.ofChange Rows.lexUpdatesSpec).at F).post enc Tryz.prog Tryz.f4 false true false false) := by
  obtain ⟨places, hx⟩ := reads os enc
  refine returnsInHanded_of_row (C := Tryz.checked) (s := OpenSpec.ofChange Rows.lexUpdatesSpec) own started (by kernel_rfl) Tryz.func4
    (witness_row_atRef (enc := enc) (C := Tryz.checked) false (World.doorLaid Tryz.prog 4000 os) #[.string ⟨#[]⟩, .slice none 0 0, SpV 0 0 ⟨#[]⟩] rfl (by kernel_rfl) (by kernel_rfl) (by kernel_rfl)
      (OpenSpec.preRow_of_cond 8 hx (by kernel_rfl) (fun k hk => by cases hk) (by kernel_rfl) (door_met os _))) ?_
  intro W base args ds gs before hval hW _ _ hz hL hs _
  exact contract H enc W base args ds gs before hval hW hz hL hs

theorem said : Rows.LexUpdatesSaid :=
  OpenClaim.holds_of_cond 4 Tryz.f4 rfl rfl rfl rfl rfl rfl rfl ⟨rfl, rfl, rfl, rfl, rfl⟩ rfl rfl rfl rfl rfl (by kernel_rfl) Tryz.func4 (by kernel_rfl)
    (of_decide_eq_true (by kernel_rfl)) (by unfold Func.isWrapper; first | (rw [if_pos (by decide +kernel)]; kernel_rfl) | (rw [if_neg (by decide +kernel)]; exact ⟨rfl, rfl⟩))
    (fun os started H enc _ F => by rw [OpenClaim.pre_eq_preRow]; exact lifted os started H enc F)

theorem plain (f : FuncId) (fn : Func) (hf : Tryz.pinned.checked.prog.funcNamed "skerry/skerrylaw01.LexUpdates" = some f) (hfn : Tryz.pinned.checked.prog.funcs[f]? = some fn) :
    true = Tryz.pinned.checked.prog.looks [] ∧ ∀ (j : Nat) t, fn.params[j]? = some t → Tryz.pinned.checked.prog.wantsStandIn t = false := by
  obtain rfl : f = 4 := Option.some.inj ((show Tryz.prog.funcNamed "skerry/skerrylaw01.LexUpdates" = some 4 by kernel_rfl).symm.trans hf) |>.symm
  obtain rfl : fn = Tryz.f4 := (Option.some.inj (Tryz.func4.symm.trans hfn)).symm
  refine ⟨by kernel_rfl, fun j t ht => ?_⟩
  rw [Tryz.params4] at ht
  have := Array.mem_of_getElem? ht
  simp only [List.mem_toArray, List.mem_cons, List.not_mem_nil, or_false] at this
  rcases this with rfl | rfl | rfl
  · exact (show Tryz.prog.wantsStandIn 9 = false by kernel_rfl)
  · exact (show Tryz.prog.wantsStandIn 23 = false by kernel_rfl)
  · exact (show Tryz.prog.wantsStandIn 40 = false by kernel_rfl)

theorem card : Rows.LexUpdatesCardSaid :=
  Claim7.holds_tied_plain_at .later [] _ _ _ _ said (fun _ h => by cases h) (by kernel_rfl) (fun _ h => by cases h) lexUpdates_row_tie rfl ⟨rfl, rfl⟩ (by kernel_rfl) rfl plain (by kernel_rfl)
end Updates
end Go.Proofs.YtdfkkeeohbgmbaaGreatDoor
