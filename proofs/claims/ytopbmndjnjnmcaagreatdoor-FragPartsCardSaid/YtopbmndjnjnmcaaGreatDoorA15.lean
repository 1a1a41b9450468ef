/- Package lex: a law for the range over that iterator. -/
import Derived.RangeFuncNested
import Derived.RangeFuncBound
import Derived.RangeFuncCalls
import Derived.RangeFuncLeaves
import Derived.Test.YtopbmndjnjnmcaaGreatDoorA14
namespace Go.Proofs.YtopbmndjnjnmcaaGreatDoor
open Go.RowKit Lx

/-- How the body of a round may be left. -/
def bodyPostR (B : Nat) (I : List Pc → St → World → Prop) (Ix : Code → List Pc → St → World → Prop) (pre : List Pc) (x : St) (W : World) : Exit → Act → World → Prop
  | .normal, _, W' => KeepsFrom B W W' ∧ I pre x W'
  | .ret, _, W' => KeepsFrom B W W' ∧ Ix .ret pre x W'
  | .exit id, _, W' => KeepsFrom B W W' ∧ Ix (.exit id) pre x W'
  | .goto t, _, W' => KeepsFrom B W W' ∧ Ix (.goto t) pre x W'
  | .panic _, _, _ => False
  | .outgrown, _, _ => False

def StableI (B : Nat) (I : List Pc → St → World → Prop) : Prop := ∀ pre x, OwnFrom B (fun (_ : Unit) W => I pre x W)

theorem range_cut {g : Operand} {ps : Array Tmp} {assign body : Code} {Q : Exit → Act → World → Prop} {a : Act} {w : World}
    (s : ByteArray) (b : Nat) (hs : s.size ≤ 20000) (x0 : St) (hx0 : x0.i ≤ s.size) (ht0 : x0.t ≤ 6000)
    (hg : a.eval g = .func (.func 129) #[.pointer (some ⟨b, 0, none⟩)] #[]) (hps : ps.size = 1)
    (I : List Pc → St → World → Prop) (Ix : Code → List Pc → St → World → Prop)
    (hI1 : ∀ pre x W, I pre x W → CutB W b s x.i x.t x.op ∧ Env W)
    (hI2 : ∀ pre x x' W W', I pre x W → W.grownBy W' (some b) → CutB W' b s x'.i x'.t x'.op → I pre x' W')
    (hI : StableI w.heap.size I) (hIx : ∀ c, StableI w.heap.size (Ix c)) (h0 : I [] x0 w) (a₁ : Pc → Nat → Act)
    (hassign : ∀ (l : Nat) (p : Pc) (W : World) (K : Act → World → Prop), K (a₁ p W.heap.size) (W.alloc (.cells #[.int .i64 (p.kind : Int), .int .i64 (p.at_ : Int), .int .i64 (p.len : Int)] 127)) →
      assign.wpIn (Fence.wide.inRound l) 0 Tryz.prog (Exit.then K (fun _ _ _ => False)) { tmps := (ps.zip #[PcV p]).foldl (fun t (p, v) => t.setIfInBounds p v) a.tmps, defers := [] } W)
    (hbody : ∀ (l : Nat) (pre : List Pc) (x : St) (p : Pc) (pb : Nat) (W : World), I pre x W → W.heap[pb]? = some (.cells #[.int .i64 (p.kind : Int), .int .i64 (p.at_ : Int), .int .i64 (p.len : Int)] 127 (0, 0)) → w.heap.size ≤ pb →
      x.i ≤ s.size ∧ x.t ≤ 6000 → p.at_ + p.len = x.i → qFrom s.data.toList x0 = (pre ++ p :: (qFrom s.data.toList x).1, (qFrom s.data.toList x).2) →
      body.wpIn (Fence.wide.inRound l) 0 Tryz.prog (bodyPostR w.heap.size I Ix (pre ++ [p]) x W) (a₁ p pb) W)
    (hdone : ∀ (D : Nat) (pre : List Pc) (x : St) (W : World), w.heap.size ≤ D → I pre x W → qFrom s.data.toList x0 = (pre, none) → x.i = s.size → W.heap[D]? = some (.deferred (some [])) → Q .normal { a with defers := { target := .collected D, args := #[] } :: a.defers } W)
    (hstop : ∀ (D : Nat) (c : Code) (pre rest : List Pc) (x : St) (W : World), w.heap.size ≤ D → Ix c pre x W → (qFrom s.data.toList x0).1 = pre ++ rest → W.heap[D]? = some (.deferred (some [])) → c.wpIn Fence.wide 2 Tryz.prog Q { a with defers := { target := .collected D, args := #[] } :: a.defers } W)
    (hpanic : ∀ (D : Nat) (pre : List Pc) (x : St) (er : Nat) (W : World), w.heap.size ≤ D → I pre x W → er ≠ 0 → qFrom s.data.toList x0 = (pre, some (er, x.i)) → W.heap[D]? = some (.deferred (some [])) →
      Q (.panic [{ v := .iface 161 (.agg #[.int .i64 er, .int .i64 x.i]), recovered := false }]) { a with defers := { target := .collected D, args := #[] } :: a.defers } W) :
    (Code.rangeFunc g ps assign body).wpIn Fence.wide 2 Tryz.prog Q a w := by
  refine wpIn_rangeFunc ?_
  intro fn hfn
  obtain ⟨rec, hrec⟩ : ∃ rec : LoopState → Option Code → Loop, rec = fun st pe => { state := st, pending := pe, fn, tmps := a.tmps, params := ps, assign, body, defers := w.heap.size } := ⟨_, rfl⟩
  obtain ⟨W1, hW1⟩ : ∃ W1, (w.alloc (.deferred (some []))).alloc (.loop (rec .ready none)) = W1 := ⟨_, rfl⟩
  have hL1 : W1.heap[w.heap.size + 1]? = some (.loop (rec .ready none)) := by
    rw [← hW1]; have := World.alloc_heap_new (w.alloc (.deferred (some []))) (.loop (rec .ready none)); rwa [World.size_alloc] at this
  have hK1 : W1.heap[w.heap.size]? = some (.deferred (some [])) := by
    rw [← hW1]; exact (Below.heap_alloc _ _ _ (by simp)).trans (World.alloc_heap_new w _)
  have put : ∀ {J : List Pc → St → World → Prop}, StableI w.heap.size J → ∀ {pre x W} (k : Nat) (o o' : Obj), J pre x W → w.heap.size ≤ k → W.heap[k]? = some o → o.isCells = false → J pre x (W.putObj k o') :=
    fun {J} hJ {pre x W} k o o' h hk hl ho => (hJ pre x).putObj (s := ()) o' h hk hl ho
  have alc : ∀ {J : List Pc → St → World → Prop}, StableI w.heap.size J → ∀ {pre x W} (o : Obj), J pre x W → J pre x (W.alloc o) :=
    fun {J} hJ {pre x W} o h => (hJ pre x).alloc (s := ()) o h
  have hI1' : I [] x0 W1 := by rw [← hW1]; exact alc hI _ (alc hI _ h0)
  have lb : b < w.heap.size := (hI1 _ _ _ h0).1.lt
  refine ⟨w.heap.size + 1, [{ target := .collected w.heap.size, args := #[] }], W1, { target := .fn (.func 129) #[], args := #[.pointer (some ⟨b, 0, none⟩), .func (.yield (w.heap.size + 1)) #[] #[]] }, W1, 129,
    #[.pointer (some ⟨b, 0, none⟩), .func (.yield (w.heap.size + 1)) #[] #[]], W1, ?_, ?_, ?_, ?_, fun _ => by omega, ?_⟩
  · rw [← hW1, hrec]; exact run_enterLoop_outer _ _ _ _ _
  · simp only [resolve, hg]
    simp [go_sem]
  · intro f' _; trivial
  · simp [invoke, go_sem]
  · refine (pieces_iter s b hs x0 (w.heap.size + 1)
      (fun pre x W => I pre x W ∧ W.heap[w.heap.size + 1]? = some (.loop (rec .ready none)) ∧ W.heap[w.heap.size]? = some (.deferred (some [])))
      (fun pre x W => ∃ c, Ix c pre x W ∧ W.heap[w.heap.size + 1]? = some (.loop (rec .done (some c))) ∧ W.heap[w.heap.size]? = some (.deferred (some [])))
      (fun pre x W h => hI1 pre x W h.1)
      (fun pre x x' W W' h hg' hc => ⟨hI2 pre x x' W W' h.1 hg' hc, (hg'.block _ (Array.getElem?_eq_some_iff.1 h.2.1).1 (fun e => by cases e; omega)).trans h.2.1, (hg'.block _ (Array.getElem?_eq_some_iff.1 h.2.2).1 (fun e => by cases e; omega)).trans h.2.2⟩)
      ?_ W1 ⟨hI1', hL1, hK1⟩ hx0 ht0).mono ?_
    · rintro pre x p W ⟨hi, hl, hk⟩ hxi hpx hq
      have hlt : w.heap.size + 1 < W.heap.size := (Array.getElem?_eq_some_iff.1 hl).1
      have hy := run_yield (P := Tryz.prog) (args := #[PcV p]) hl (by rw [hrec]; exact hps.symm)
      rw [hrec] at hy
      obtain ⟨W2, hW2⟩ : ∃ W2, W.alloc (.cells #[.int .i64 (p.kind : Int), .int .i64 (p.at_ : Int), .int .i64 (p.len : Int)] 127) = W2 := ⟨_, rfl⟩
      have hlA : W2.heap[w.heap.size + 1]? = some (.loop (rec .ready none)) := by rw [← hW2]; exact (Below.heap_alloc _ _ _ hlt).trans hl
      have hkA : W2.heap[w.heap.size]? = some (.deferred (some [])) := by rw [← hW2]; exact (Below.heap_alloc _ _ _ (by omega)).trans hk
      have hpA : W2.heap[W.heap.size]? = some (.cells #[.int .i64 (p.kind : Int), .int .i64 (p.at_ : Int), .int .i64 (p.len : Int)] 127 (0, 0)) := by rw [← hW2]; exact World.alloc_heap_new W _
      have hiA : I pre x W2 := by rw [← hW2]; exact alc hI _ hi
      have hltA : w.heap.size + 1 < W2.heap.size := (Array.getElem?_eq_some_iff.1 hlA).1
      refine ⟨fn, _, assign, body, hy, roundIn_of_wpIn hfn (hassign _ p W _ ⟨_, run_beginRound (hW2 ▸ hlA) (by rw [hrec]), ?_⟩)⟩
      rw [hW2]
      have hl2 : (W2.putObj (w.heap.size + 1) (.loop { rec .ready none with state := .busy })).heap[w.heap.size + 1]? = some (.loop { rec .ready none with state := .busy }) := World.putObj_heap_same hltA
      have hk2 : (W2.putObj (w.heap.size + 1) (.loop { rec .ready none with state := .busy })).heap[w.heap.size]? = some (.deferred (some [])) := (World.putObj_heap_other (by omega)).trans hkA
      have hp2 : (W2.putObj (w.heap.size + 1) (.loop { rec .ready none with state := .busy })).heap[W.heap.size]? = some (.cells #[.int .i64 (p.kind : Int), .int .i64 (p.at_ : Int), .int .i64 (p.len : Int)] 127 (0, 0)) := (World.putObj_heap_other (by omega)).trans hpA
      refine wpIn_mono (hbody _ pre x p W.heap.size _ (put hI _ _ _ hiA (by omega) hlA rfl) hp2 (by omega) hxi hpx hq) ?_
      have fin : ∀ (jump : Option Code) (W3 : World), KeepsFrom w.heap.size (W2.putObj (w.heap.size + 1) (.loop { rec .ready none with state := .busy })) W3 →
          (Instr.endRound (w.heap.size + 1) jump).run Tryz.prog W3 = .ok (.bool jump.isNone) (W3.putObj (w.heap.size + 1) (.loop (rec (if jump.isNone then .ready else .done) jump))) ∧
          W3.heap[w.heap.size + 1]? = some (.loop { rec .ready none with state := .busy }) ∧
          (W3.putObj (w.heap.size + 1) (.loop (rec (if jump.isNone then .ready else .done) jump))).heap[w.heap.size + 1]? = some (.loop (rec (if jump.isNone then .ready else .done) jump)) ∧
          (W3.putObj (w.heap.size + 1) (.loop (rec (if jump.isNone then .ready else .done) jump))).heap[w.heap.size]? = some (.deferred (some [])) := fun jump W3 hk3 => by
        have hl3 := hk3.same _ _ (by omega) hl2 rfl
        have := run_endRound (P := Tryz.prog) jump hl3
        rw [hrec] at this ⊢
        exact ⟨this, by rw [hrec] at hl3; exact hl3, World.putObj_heap_same (Array.getElem?_eq_some_iff.1 hl3).1, (World.putObj_heap_other (by omega)).trans (hk3.same _ _ (Nat.le_refl _) hk2 rfl)⟩
      rintro e a3 W3 hp
      cases e with
      | normal =>
        obtain ⟨hk3, hi3⟩ := hp
        obtain ⟨hr, hl3, hl4, hk4⟩ := fin none W3 hk3
        exact ⟨_, _, hr, .inl ⟨rfl, put hI _ _ _ hi3 (by omega) hl3 rfl, hl4, hk4⟩⟩
      | ret =>
        obtain ⟨hk3, hi3⟩ := hp
        obtain ⟨hr, hl3, hl4, hk4⟩ := fin (some .ret) W3 hk3
        exact ⟨_, _, hr, .inr ⟨rfl, .ret, put (hIx _) _ _ _ hi3 (by omega) hl3 rfl, hl4, hk4⟩⟩
      | exit id =>
        obtain ⟨hk3, hi3⟩ := hp
        obtain ⟨hr, hl3, hl4, hk4⟩ := fin (some (.exit id)) W3 hk3
        exact ⟨_, _, hr, .inr ⟨rfl, .exit id, put (hIx _) _ _ _ hi3 (by omega) hl3 rfl, hl4, hk4⟩⟩
      | goto t =>
        obtain ⟨hk3, hi3⟩ := hp
        obtain ⟨hr, hl3, hl4, hk4⟩ := fin (some (.goto t)) W3 hk3
        exact ⟨_, _, hr, .inr ⟨rfl, .goto t, put (hIx _) _ _ _ hi3 (by omega) hl3 rfl, hl4, hk4⟩⟩
      | panic _ => exact hp.elim
      | outgrown => exact hp.elim
    · rintro e W3 (⟨pre, x, rfl, ⟨hi, hl, hk⟩, hq, hxe⟩ | ⟨pre, x, rest, rfl, ⟨c, hi, hl, hk⟩, hq⟩ | ⟨pre, x, er, rfl, her, ⟨hi, hl, hk⟩, hq⟩)
      · exact ⟨none, _, by have := run_endLoop (P := Tryz.prog) hl (by rw [hrec]; simp); rw [hrec] at this; exact this, hdone _ pre x _ (Nat.le_refl _) (put hI _ _ _ hi (by omega) hl rfl) hq hxe ((World.putObj_heap_other (by omega)).trans hk)⟩
      · exact ⟨some c, _, by have := run_endLoop (P := Tryz.prog) hl (by rw [hrec]; simp); rw [hrec] at this; exact this, hstop _ c pre rest x _ (Nat.le_refl _) (put (hIx _) _ _ _ hi (by omega) hl rfl) hq ((World.putObj_heap_other (by omega)).trans hk)⟩
      · exact hpanic _ pre x er W3 (Nat.le_refl _) hi her hq hk

/-- The frame of a round whose variable lies in a block. -/
def rnd (a : Act) (i slot : Nat) (p : Pc) (pb : Nat) : Act := { tmps := (a.tmps.setIfInBounds i (PcV p)).setIfInBounds slot (.pointer (some ⟨pb, 0, none⟩)), defers := [] }

theorem fold_one (t : Array Value) (i : Tmp) (u : Value) : (#[i].zip #[u]).foldl (fun t (p, v) => t.setIfInBounds p v) t = t.setIfInBounds i u := by simp

/-- The law, with the frame that it leaves reckoned. -/
theorem range_cut_slot {g : Operand} {i : Tmp} {assign body : Code} {Q : Exit → Act → World → Prop} {a : Act} {w : World} (slot : Nat)
    (s : ByteArray) (b : Nat) (hs : s.size ≤ 20000) (x0 : St) (hx0 : x0.i ≤ s.size) (ht0 : x0.t ≤ 6000)
    (hg : a.eval g = .func (.func 129) #[.pointer (some ⟨b, 0, none⟩)] #[])
    (I : List Pc → St → World → Prop) (Ix : Code → List Pc → St → World → Prop)
    (hI1 : ∀ pre x W, I pre x W → CutB W b s x.i x.t x.op ∧ Env W)
    (hI2 : ∀ pre x x' W W', I pre x W → W.grownBy W' (some b) → CutB W' b s x'.i x'.t x'.op → I pre x' W')
    (hI : StableI w.heap.size I) (hIx : ∀ c, StableI w.heap.size (Ix c)) (h0 : I [] x0 w)
    (hassign : ∀ (l : Nat) (p : Pc) (W : World) (K : Act → World → Prop), K (rnd a i slot p W.heap.size) (W.alloc (.cells #[.int .i64 (p.kind : Int), .int .i64 (p.at_ : Int), .int .i64 (p.len : Int)] 127)) →
      assign.wpIn (Fence.wide.inRound l) 0 Tryz.prog (Exit.then K (fun _ _ _ => False)) { tmps := a.tmps.setIfInBounds i (PcV p), defers := [] } W)
    (hbody : ∀ (l : Nat) (pre : List Pc) (x : St) (p : Pc) (pb : Nat) (W : World), I pre x W → W.heap[pb]? = some (.cells #[.int .i64 (p.kind : Int), .int .i64 (p.at_ : Int), .int .i64 (p.len : Int)] 127 (0, 0)) → w.heap.size ≤ pb →
      x.i ≤ s.size ∧ x.t ≤ 6000 → p.at_ + p.len = x.i → qFrom s.data.toList x0 = (pre ++ p :: (qFrom s.data.toList x).1, (qFrom s.data.toList x).2) →
      body.wpIn (Fence.wide.inRound l) 0 Tryz.prog (bodyPostR w.heap.size I Ix (pre ++ [p]) x W) (rnd a i slot p pb) W)
    (hdone : ∀ (D : Nat) (pre : List Pc) (x : St) (W : World), w.heap.size ≤ D → I pre x W → qFrom s.data.toList x0 = (pre, none) → x.i = s.size → W.heap[D]? = some (.deferred (some [])) → Q .normal { a with defers := { target := .collected D, args := #[] } :: a.defers } W)
    (hstop : ∀ (D : Nat) (c : Code) (pre rest : List Pc) (x : St) (W : World), w.heap.size ≤ D → Ix c pre x W → (qFrom s.data.toList x0).1 = pre ++ rest → W.heap[D]? = some (.deferred (some [])) → c.wpIn Fence.wide 2 Tryz.prog Q { a with defers := { target := .collected D, args := #[] } :: a.defers } W)
    (hpanic : ∀ (D : Nat) (pre : List Pc) (x : St) (er : Nat) (W : World), w.heap.size ≤ D → I pre x W → er ≠ 0 → qFrom s.data.toList x0 = (pre, some (er, x.i)) → W.heap[D]? = some (.deferred (some [])) →
      Q (.panic [{ v := .iface 161 (.agg #[.int .i64 er, .int .i64 x.i]), recovered := false }]) { a with defers := { target := .collected D, args := #[] } :: a.defers } W) :
    (Code.rangeFunc g #[i] assign body).wpIn Fence.wide 2 Tryz.prog Q a w :=
  range_cut s b hs x0 hx0 ht0 hg rfl I Ix hI1 hI2 hI hIx h0 (fun p pb => rnd a i slot p pb) (fun l p W K h => (fold_one a.tmps i (PcV p)) ▸ hassign l p W K h) hbody hdone hstop hpanic
end Go.Proofs.YtopbmndjnjnmcaaGreatDoor
