/- The law LexTokens of package lex, for every two lists of tokens: it returns true, and both read as they did; what the library's five listed variables hold is tied to the program's text. -/
import Derived.Test.YtdfkkeeohbgmbaaGreatDoorLaid
import Derived.Test.YtdfkkeeohbgmbaaGreatDoorN20
import Derived.Lib.SmallJoins
import Derived.Carry
import Derived.Deep.Slices
import Derived.Deep.Strs
import Derived.SizedLaws
namespace Go.Proofs.YtdfkkeeohbgmbaaGreatDoor
open Go.ChangeShapes Go.WideShapes Go.ChangeAt Go.RowKit Go.Joins Go.Deep
open Go.ChangeMaps (open_string shut_string)

theorem laidOutT : laidOutB Tryz.prog = true := by kernel_rfl
theorem cells51 : Tryz.prog.cellsOf 51 = 5 := by kernel_rfl
theorem bytes51 : Tryz.prog.bytesOf 51 = 48 := by kernel_rfl
theorem reach_smallT : reachBytes ≤ 140737488355328 := by decide
theorem cellsOf3T : Tryz.prog.cellsOf 3 = 1 := by kernel_rfl
theorem cellsOf9T : Tryz.prog.cellsOf 9 = 1 := by kernel_rfl
instance : Inhabited Tok := ⟨⟨0, 0, ⟨#[]⟩, 0, 0⟩⟩
theorem cell_ltT {w : World} {a : Addr} {v : Value} (h : w.cell? a = some v) : a.block < w.heap.size := by
  unfold World.cell? at h
  split at h
  · rename_i h2; exact (Array.getElem?_eq_some_iff.1 h2).1
  · cases h

set_option maxRecDepth 100000 in
/-- Tokens that are read. -/
theorem open_tokens {H : Type} {enc : TypeId × Value → H} {w : World} {base : Nat} {spare : Nat → Bool} {held : Bool} {r : Reach} {b0 : Nat} {v : Value} {d : DataW H} {p : List MemPlace}
    (hv : Value.okWide Tryz.prog w r b0 30 v) (h : DataW.Trod enc Tryz.prog w base spare held 30 v d p) :
    ∃ ts : List Tok, TokRead w v ts ∧ (∀ t ∈ ts, t.text.size ≤ maxLen) ∧ (ts = [] ∨ ∃ el sp, d = .slice el sp ∧ el.length = ts.length) := by
  obtain ⟨fuel, hf⟩ := h
  obtain ⟨a0, len0, cap0, rfl⟩ := okWide_slice Tryz.underlying30 hv
  rcases open_slice Tryz.underlying30 hf with ⟨hnil, _⟩ | ⟨a, len, cap, m, n, D, Pl, hcs, _, hl, hm, hmm, hd, hx⟩
  · have hnil' : [Value.slice a0 len0 cap0] = [.slice none 0 0] := hnil
    simp only [List.cons.injEq, Value.slice.injEq, and_true] at hnil'
    obtain ⟨rfl, rfl, rfl⟩ := hnil'
    exact ⟨[], ⟨none, 0, rfl, ⟨by simp, by simp⟩, fun k p hk => by simp at hk⟩, by simp, Or.inl rfl⟩
  · have hcs' : [Value.slice a0 len0 cap0] = [.slice (some a) len cap] := hcs
    simp only [List.cons.injEq, Value.slice.injEq, and_true] at hcs'
    obtain ⟨rfl, rfl, rfl⟩ := hcs'
    have hlm : len0 ≤ m := by rw [hmm]; split <;> omega
    have each : ∀ i, i < len0 → ∃ q : Tok, w.cell? (a.add (i * 5)) = some (.int .i64 q.kind) ∧ w.cell? (a.add (i * 5 + 1)) = some (.int .i64 q.num) ∧ w.cell? (a.add (i * 5 + 2)) = some (.string q.text) ∧
        w.cell? (a.add (i * 5 + 3)) = some (.int .i64 q.at_) ∧ w.cell? (a.add (i * 5 + 4)) = some (.int .i64 q.mark) ∧ q.text.size ≤ maxLen := by
      intro i hi
      obtain ⟨cs', h1, h2⟩ := hx i (by omega)
      rw [cells51] at h1
      obtain ⟨_, hlen, hcell⟩ := World.cells?_some h1
      obtain ⟨xs, n', _, _, _, hxl, hff⟩ := DataW.trod_struct Tryz.underlying51 h2
      match xs, hxl, cs', hlen with
      | [y0, y1, y2, y3, y4], _, [v0, v1, v2, v3, v4], _ =>
        obtain ⟨x0, hx0, _, _⟩ := DataW.trod_int Tryz.underlying3 (hff 0 _ rfl)
        obtain ⟨x1, hx1, _, _⟩ := DataW.trod_int Tryz.underlying3 (hff 1 _ rfl)
        obtain ⟨x2, hx2, _, hz2⟩ := DataW.trod_string Tryz.underlying9 (hff 2 _ rfl)
        obtain ⟨x3, hx3, _, _⟩ := DataW.trod_int Tryz.underlying3 (hff 3 _ rfl)
        obtain ⟨x4, hx4, _, _⟩ := DataW.trod_int Tryz.underlying3 (hff 4 _ rfl)
        have e0 := hcell 0 (by omega)
        have e1 := hcell 1 (by omega)
        have e2 := hcell 2 (by omega)
        have e3 := hcell 3 (by omega)
        have e4 := hcell 4 (by omega)
        rw [add_add] at e0 e1 e2 e3 e4
        have hv0 : v0 = .int .i64 x0 := by simpa [cellsOf3T] using hx0
        have hv1 : v1 = .int .i64 x1 := by simpa [cellsOf3T] using hx1
        have hv2 : v2 = .string x2 := by simpa [cellsOf9T] using hx2
        have hv3 : v3 = .int .i64 x3 := by simpa [cellsOf3T] using hx3
        have hv4 : v4 = .int .i64 x4 := by simpa [cellsOf3T] using hx4
        subst hv0 hv1 hv2 hv3 hv4
        exact ⟨⟨x0, x1, x2, x3, x4⟩, by simpa using e0, by simpa using e1, by simpa using e2, by simpa using e3, by simpa using e4, hz2⟩
    obtain ⟨q, hq⟩ := choose_lt each
    have hdd : ∃ el sp, d = .slice el sp ∧ el.length = ((List.range len0).map q).length := by
      simp only [Prod.mk.injEq] at hd
      exact ⟨_, _, hd.1, by simp⟩
    refine ⟨(List.range len0).map q, ⟨some a, cap0, by simp, ⟨by simp; omega, by simpa using hl⟩, fun k p hk => ?_⟩, fun t ht => ?_, Or.inr hdd⟩
    · rw [List.getElem?_map, Option.map_eq_some_iff] at hk
      obtain ⟨i, hi, rfl⟩ := hk
      obtain ⟨hk1, hk2⟩ := List.getElem?_eq_some_iff.1 hi
      have hki : k = i := by simpa using hk2
      have hkl : k < len0 := by simpa using hk1
      subst hki
      obtain ⟨c0, c1, c2, c3, c4, _⟩ := hq k hkl
      obtain ⟨h00, _⟩ := hq 0 (by omega)
      rw [Nat.zero_mul, show a.add 0 = a from rfl] at h00
      have hsp := World.cell?_spot h00
      have hlt := cell_ltT h00
      obtain ⟨b, o, sp⟩ := a
      simp only at hsp hlt
      subst hsp
      rw [add_plain] at c0 c1 c2 c3 c4
      simp only [← Nat.add_assoc] at c1 c2 c3 c4
      exact ⟨b, o, rfl, hlt, c0, c1, c2, c3, c4⟩
    · simp only [List.mem_map, List.mem_range] at ht
      obtain ⟨i, hi, rfl⟩ := ht
      exact (hq i hi).2.2.2.2.2

namespace Tokens
set_option maxRecDepth 100000 in
/-- What the walk gives, for every argument and every world that holds the variables. -/
theorem contract (H : Type) (enc : TypeId × Value → H) (W : World) (base : Nat) (args : Array Value) (ds gs : List (DataW H)) (before : List MemPlace)
    (hval : ∀ (j : Nat) t v, Tryz.f6.params[j]? = some t → args[j]? = some v → Value.okWide Tryz.prog W .any base t v)
    (hW : DataW.Whole enc Tryz.prog Tryz.f6.params.toList Rows.lexTokensSpec.vars false W args.toList ds gs before)
    (hz : (DataW.weightsEach Tryz.prog (Tryz.f6.params.toList ++ (OpenSpec.ofChange Rows.lexTokensSpec).bare.plain.varTypes Tryz.prog) (ds ++ gs)).all (· ≤ reachBytes) = true)
    (hL : laidMetH Tryz.prog laid5 W) (hs : W.ShapedOpen Tryz.prog) :
    Calls Tryz.prog 6 args W fun e W' => ∃ v, e = .returned v ∧ Rows.lexTokensSpec.post enc Tryz.prog Tryz.f6 false true false false W args v W' := by
  have hW' := hW
  obtain ⟨p, q, hA0, hV, rfl, hfz, hnd⟩ := hW
  have hA : DataW.TrodAll enc Tryz.prog W 0 (fun _ => true) true Tryz.f6.params.toList args.toList ds p := hA0
  rw [Tryz.params6] at hA hval
  have hAlt := DataW.TrodAll.lt hA
  obtain ⟨v0, v1, d0, d1, p0, p1, rfl, rfl, rfl, h0, h1⟩ := trodAll_two hA
  obtain ⟨rfl, rfl⟩ := trodVars_none hV
  have h0k := h0
  have h1k := h1
  obtain ⟨ts, hts, hsz, hdl⟩ := open_tokens (hval 0 30 v0 rfl rfl) h0
  obtain ⟨us, hus, _, _⟩ := open_tokens (hval 1 30 v1 rfl rfl) h1
  clear hA0
  simp only [List.append_nil] at hW' hz
  have hr := reach_smallT
  have hw : ts.length * 41 ≤ 140737488355328 := by
    rcases hdl with rfl | ⟨el, sp, rfl, hel⟩
    · simp
    · have e : (Tryz.f6.params.toList ++ (OpenSpec.ofChange Rows.lexTokensSpec).bare.plain.varTypes Tryz.prog) = [30, 30] := by kernel_rfl
      rw [e] at hz
      have := sized_slice (j := 0) hz rfl rfl Tryz.underlying30
      rw [bytes51, hel] at this
      omega
  refine (lexTokens_any v0 v1 ts us hsz hw W (env_of_laid hL hs) hts hus).mono fun e W' ⟨he, hb⟩ => ?_
  subst he
  exact ⟨_, rfl, _, _, _, [], _, [], hW', trodAll_mk1 (shut_bool Tryz.underlying4 _), trodAll_mk2 (Below.trod laidOutT (by kernel_rfl) (of_decide_eq_true (by kernel_rfl)) h0k hb (fun x hx => hAlt x (by simp [hx]))) (Below.trod laidOutT (by kernel_rfl) (of_decide_eq_true (by kernel_rfl)) h1k hb (fun x hx => hAlt x (by simp [hx]))), rfl, hb.frame _, fun h => by cases h⟩

theorem reads (os : Os) {H : Type} (enc : TypeId × Value → H) : ∃ places, DataW.whole enc Tryz.prog ((World.doorLaid Tryz.prog 4000 os).forCall (fun _ _ => 0) ⟨#[], #[.slice none 0 0, .slice none 0 0], []⟩).memory Tryz.f6.params.toList Rows.lexTokensSpec.vars false #[Value.slice none 0 0, .slice none 0 0].toList 8 = some ([.nil, .nil], [], places) :=
  ⟨[], by kernel_rfl⟩

set_option maxRecDepth 100000 in
theorem lifted (os : Os) (started : os.Started) (H : Type) (enc : TypeId × Value → H) (F : Stop.Interp) :
    ReturnsInHanded {} Tryz.checked os 6 .any ((OpenSpec.ofChange Rows.lexTokensSpec).preRow enc Tryz.prog Tryz.f6 Rows.lexTokensRow.domain false Rows.lexTokensRow.laid) (((OpenSpec.ofChange Rows.lexTokensSpec).at F).post enc Tryz.prog Tryz.f6 false true false false) := by
  obtain ⟨places, hx⟩ := reads os enc
  refine returnsInHanded_of_row (C := Tryz.checked) (s := OpenSpec.ofChange Rows.lexTokensSpec) own started (by kernel_rfl) Tryz.func6
    (witness_row_atRef (enc := enc) (C := Tryz.checked) false (World.doorLaid Tryz.prog 4000 os) #[.slice none 0 0, .slice none 0 0] rfl (by kernel_rfl) (by kernel_rfl) (by kernel_rfl)
      (OpenSpec.preRow_of_cond 8 hx (by kernel_rfl) (fun k hk => by cases hk) (by kernel_rfl) (door_met os _))) ?_
  intro W base args ds gs before hval hW _ _ hz hL hs _
  exact contract H enc W base args ds gs before hval hW hz hL hs

theorem said : Rows.LexTokensSaid :=
  OpenClaim.holds_of_cond 6 Tryz.f6 rfl rfl rfl rfl rfl rfl rfl ⟨rfl, rfl, rfl, rfl, rfl⟩ rfl rfl rfl rfl rfl (by kernel_rfl) Tryz.func6 (by kernel_rfl)
    (of_decide_eq_true (by kernel_rfl)) (by unfold Func.isWrapper; first | (rw [if_pos (by decide +kernel)]; kernel_rfl) | (rw [if_neg (by decide +kernel)]; exact ⟨rfl, rfl⟩))
    (fun os started H enc _ F => by rw [OpenClaim.pre_eq_preRow]; exact lifted os started H enc F)

theorem plain (f : FuncId) (fn : Func) (hf : Tryz.pinned.checked.prog.funcNamed "skerry/skerrylaw01.LexTokens" = some f) (hfn : Tryz.pinned.checked.prog.funcs[f]? = some fn) :
    true = Tryz.pinned.checked.prog.looks [] ∧ ∀ (j : Nat) t, fn.params[j]? = some t → Tryz.pinned.checked.prog.wantsStandIn t = false := by
  obtain rfl : f = 6 := Option.some.inj ((show Tryz.prog.funcNamed "skerry/skerrylaw01.LexTokens" = some 6 by kernel_rfl).symm.trans hf) |>.symm
  obtain rfl : fn = Tryz.f6 := (Option.some.inj (Tryz.func6.symm.trans hfn)).symm
  refine ⟨by kernel_rfl, fun j t ht => ?_⟩
  rw [Tryz.params6] at ht
  have := Array.mem_of_getElem? ht
  simp only [List.mem_toArray, List.mem_cons, List.not_mem_nil, or_false] at this
  rcases this with rfl | rfl <;> exact (show Tryz.prog.wantsStandIn 30 = false by kernel_rfl)

theorem card : Rows.LexTokensCardSaid :=
  Claim7.holds_tied_plain_at .later [] _ _ _ _ said (fun _ h => by cases h) (by kernel_rfl) (fun _ h => by cases h) lexTokens_row_tie rfl ⟨rfl, rfl⟩ (by kernel_rfl) rfl plain (by kernel_rfl)
end Tokens
end Go.Proofs.YtdfkkeeohbgmbaaGreatDoor
