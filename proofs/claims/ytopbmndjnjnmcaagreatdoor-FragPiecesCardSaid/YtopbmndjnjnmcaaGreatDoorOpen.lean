/- Arguments that are slices of tokens or of strings, opened. -/
import Derived.Test.YtopbmndjnjnmcaaGreatDoorLaid
import Derived.Test.YtopbmndjnjnmcaaGreatDoorMA
import Derived.Deep.Slices
import Derived.SliceStrings
import Derived.Carry
import Derived.SizedLaws
namespace Go.Proofs.YtopbmndjnjnmcaaGreatDoor
open Go.ChangeShapes Go.WideShapes Go.ChangeAt Go.RowKit Lx

theorem c50 : Tryz.prog.cellsOf 50 = 5 := by kernel_rfl
theorem c3 : Tryz.prog.cellsOf 3 = 1 := by kernel_rfl
theorem b50 : Tryz.prog.bytesOf 50 = 48 := by kernel_rfl
theorem b9 : Tryz.prog.bytesOf 9 = 16 := by kernel_rfl
theorem laidOut : laidOutB Tryz.prog = true := by kernel_rfl

instance : Inhabited Tok := ⟨⟨0, 0, ByteArray.empty, 0, 0⟩⟩

theorem block_of_cell {w : World} {a : Addr} {v : Value} (h : w.cell? a = some v) : a.block < w.heap.size := by
  rcases Nat.lt_or_ge a.block w.heap.size with h' | h'
  · exact h'
  · unfold World.cell? at h; rw [Array.getElem?_eq_none h'] at h; cases h

theorem cell_add {w : World} {a : Addr} {v : Value} (h : w.cell? (a.add 0) = some v) (i : Nat) : a = ⟨a.block, a.off, none⟩ ∧ a.add i = ⟨a.block, a.off + i, none⟩ := by
  have hs : a.spot = none := by simpa [Addr.add] using World.cell?_spot h
  obtain ⟨b, o, s⟩ := a
  subst hs
  exact ⟨rfl, add_plain _ _ _⟩

variable {H : Type} {enc : TypeId × Value → H}

set_option maxRecDepth 100000 in
/-- One token. -/
theorem open_tok {W : World} {n : Nat} {cs : List Value} {x : DataW H × List MemPlace} (hl : cs.length = 5) (h : DataW.trod enc Tryz.prog W 0 (fun _ => true) true n 50 cs = some x) :
    ∃ t : Tok, cs = (tokC t).toList ∧ t.text.size ≤ maxLen := by
  obtain ⟨xs, k, rfl, _, _, hxl, hf⟩ := DataW.trod_struct Tryz.underlying50 h
  match cs, hl, xs, hxl with
  | [v0, v1, v2, v3, v4], _, [y0, y1, y2, y3, y4], _ =>
    have e0 := hf 0 _ rfl
    have e1 := hf 1 _ rfl
    have e2 := hf 2 _ rfl
    have e3 := hf 3 _ rfl
    have e4 := hf 4 _ rfl
    simp [c3, cells9] at e0 e1 e2 e3 e4
    obtain ⟨n0, h0, _⟩ := DataW.trod_int Tryz.underlying3 e0
    obtain ⟨n1, h1, _⟩ := DataW.trod_int Tryz.underlying3 e1
    obtain ⟨s2, h2, _, hz⟩ := DataW.trod_string Tryz.underlying9 e2
    obtain ⟨n3, h3, _⟩ := DataW.trod_int Tryz.underlying3 e3
    obtain ⟨n4, h4, _⟩ := DataW.trod_int Tryz.underlying3 e4
    simp only [List.cons.injEq, and_true] at h0 h1 h2 h3 h4
    subst h0 h1 h2 h3 h4
    exact ⟨⟨n0, n1, s2, n3, n4⟩, rfl, hz⟩

set_option maxRecDepth 100000 in
/-- A slice of tokens. -/
theorem open_toks {W : World} {v : Value} {base : Nat} {d : DataW H} {p : List MemPlace} (hv : Value.okWide Tryz.prog W .any base 22 v) (h : DataW.Trod enc Tryz.prog W 0 (fun _ => true) true 22 v d p) :
    ∃ ts : List Tok, TokRead W v ts ∧ (∀ t ∈ ts, t.text.size ≤ maxLen) ∧ (∀ n c, v = .slice none n c → c = 0) ∧ ((d = .nil ∧ ts = []) ∨ ∃ elems spare, d = .slice elems spare ∧ elems.length = ts.length) := by
  obtain ⟨a0, len, cap, rfl⟩ := okWide_slice Tryz.underlying22 hv
  obtain ⟨fuel, hf⟩ := h
  rcases Go.Deep.open_slice Tryz.underlying22 hf with ⟨hcs, hx⟩ | ⟨a, len', cap', m, n, D, Pl, hcs, _, hl, hm, hmm, hx, hel⟩
  · simp [Value.cells] at hcs
    obtain ⟨rfl, rfl, rfl⟩ := hcs
    simp only [Prod.mk.injEq] at hx
    exact ⟨[], ⟨none, 0, rfl, by simp, fun k t hk => by simp at hk⟩, fun t ht => by simp at ht, fun n c h => by cases h; rfl, .inl ⟨hx.1, rfl⟩⟩
  · simp [Value.cells] at hcs
    obtain ⟨rfl, rfl, rfl⟩ := hcs
    simp only [Prod.mk.injEq] at hx
    simp only [if_true] at hmm
    subst hmm
    rw [c50] at hel
    obtain ⟨T, hT⟩ := Go.Deep.choose_lt (α := Tok) (n := len) (p := fun i t => W.cells? 0 (a.add (i * 5)) 5 = some (tokC t).toList ∧ t.text.size ≤ maxLen) (fun i hi => by
      obtain ⟨cs', h1, h2⟩ := hel i (by omega)
      obtain ⟨_, hlen, _⟩ := World.cells?_some h1
      obtain ⟨t, rfl, hz⟩ := open_tok hlen h2
      exact ⟨t, h1, hz⟩)
    refine ⟨(List.range len).map T, ⟨some a, m, by simp, (by simp; omega), fun k t hk => ?_⟩, fun t ht => ?_, (fun n c h => by cases h), .inr ⟨_, _, hx.1, by simp⟩⟩
    · obtain ⟨hi, he⟩ := List.getElem?_eq_some_iff.1 hk
      have hkl : k < len := by simpa using hi
      have ht : T k = t := by simpa using he
      subst ht
      obtain ⟨h1, _⟩ := hT k hkl
      obtain ⟨h0, _⟩ := hT 0 (by omega)
      obtain ⟨_, _, hc⟩ := World.cells?_some h1
      obtain ⟨_, _, hc0⟩ := World.cells?_some h0
      have z0 := hc0 0 (by omega)
      rw [Go.Deep.add_add] at z0
      have z1 := block_of_cell (z0.trans rfl)
      have ha := fun i => cell_add (z0.trans rfl) i
      obtain ⟨ea, _⟩ := ha 0
      have hcj : ∀ j, j < 5 → W.cell? ⟨a.block, a.off + k * 5 + j, none⟩ = (tokC (T k)).toList[j]? := fun j hj => by
        have := hc j hj
        rw [Go.Deep.add_add, (ha _).2] at this
        rw [Nat.add_assoc]; exact this
      refine ⟨a.block, a.off, congrArg some ea, ?_, hcj 0 (by omega), hcj 1 (by omega), hcj 2 (by omega), hcj 3 (by omega), hcj 4 (by omega)⟩
      rw [ea] at z1; simpa [Addr.add] using z1
    · obtain ⟨i, hi, rfl⟩ := List.mem_map.1 ht
      exact (hT i (List.mem_range.1 hi)).2

set_option maxRecDepth 100000 in
/-- A slice of words. -/
theorem open_words {W : World} {v : Value} {base : Nat} {d : DataW H} {p : List MemPlace} (hv : Value.okWide Tryz.prog W .any base 23 v) (h : DataW.Trod enc Tryz.prog W 0 (fun _ => true) true 23 v d p) :
    ∃ ws : List ByteArray, StrRead W v ws ∧ (∀ s ∈ ws, s.size ≤ maxLen) ∧ ((d = .nil ∧ ws = []) ∨ ∃ elems spare, d = .slice elems spare ∧ elems.length = ws.length) := by
  obtain ⟨a0, len, cap, rfl⟩ := okWide_slice Tryz.underlying23 hv
  obtain ⟨fuel, hf⟩ := h
  rcases open_strings Tryz.underlying23 Tryz.underlying9 cells9 hf with ⟨hcs, hx⟩ | ⟨a, len', cap', ss, hcs, _, hl, hm, hz, hx, hcell, hsz⟩
  · simp [Value.cells] at hcs
    obtain ⟨rfl, rfl, rfl⟩ := hcs
    simp only [Prod.mk.injEq] at hx
    exact ⟨[], ⟨none, 0, rfl, by simp, fun k t hk => by simp at hk⟩, fun t ht => by simp at ht, .inl ⟨hx.1, rfl⟩⟩
  · simp [Value.cells] at hcs
    obtain ⟨rfl, rfl, rfl⟩ := hcs
    simp only [Prod.mk.injEq] at hx
    simp only [if_true] at hz
    have hlt : (ss.take len).length = len := by rw [List.length_take]; omega
    refine ⟨ss.take len, ⟨some a, cap, by rw [hlt], by omega, fun k s hk => ?_⟩, fun s hs => hsz s (List.mem_of_mem_take hs), .inr ⟨_, _, hx.1, by simp [strs]⟩⟩
    have hkl : k < len := by have := (List.getElem?_eq_some_iff.1 hk).1; omega
    have hk' : ss[k]? = some s := by rw [List.getElem?_take_of_lt hkl] at hk; exact hk
    have z0 := hcell 0 (by omega)
    have z := hcell k (by omega)
    obtain ⟨ea, _⟩ := cell_add z0 0
    rw [(cell_add z0 k).2] at z
    refine ⟨a.block, a.off, congrArg some ea, (by simpa [Addr.add] using block_of_cell z0), ?_⟩
    rw [z, List.getD, hk']; rfl
end Go.Proofs.YtopbmndjnjnmcaaGreatDoor
