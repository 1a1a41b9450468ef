/- Fragments in memory, and what a reader of them holds. -/
import Derived.Test.YtopbmndjnjnmcaaGreatDoorT0
import Derived.Test.YtopbmndjnjnmcaaGreatDoorA25
namespace Go.Proofs.YtopbmndjnjnmcaaGreatDoor
open Go.RowKit Lx Go.Sort

/-- A fragment. -/
inductive Fr where
  | mk (tok : Tok) (op : ByteArray) (kids : List Fr)
def Fr.tok : Fr → Tok | .mk t _ _ => t
def Fr.op : Fr → ByteArray | .mk _ o _ => o
def Fr.kids : Fr → List Fr | .mk _ _ k => k

/-- Fragments one behind the other in memory, all of whose blocks are among some. -/
inductive FrAt (W : World) (S : Nat → Prop) : Nat → Nat → List Fr → Prop
  | nil (g o : Nat) : FrAt W S g o []
  | cons {g o : Nat} {t : Tok} {op : ByteArray} {ks l : List Fr} {a : Option Addr} {c g' o' : Nat} (hs : S g) (hg : g < W.heap.size)
      (h0 : W.cell? ⟨g, o, none⟩ = some (.int .i64 t.kind)) (h1 : W.cell? ⟨g, o + 1, none⟩ = some (.int .i64 t.num)) (h2 : W.cell? ⟨g, o + 2, none⟩ = some (.string t.text))
      (h3 : W.cell? ⟨g, o + 3, none⟩ = some (.int .i64 t.at_)) (h4 : W.cell? ⟨g, o + 4, none⟩ = some (.int .i64 t.mark)) (h5 : W.cell? ⟨g, o + 5, none⟩ = some (.string op))
      (h6 : W.cell? ⟨g, o + 6, none⟩ = some (.slice a ks.length c)) (hm : ks.length ≤ maxLen ∧ ks.length ≤ c) (ha : ks ≠ [] → a = some ⟨g', o', none⟩)
      (hk : FrAt W S g' o' ks) (hl : FrAt W S g (o + 7) l) : FrAt W S g o (.mk t op ks :: l)

/-- A slice of fragments. -/
def FrRead (W : World) (S : Nat → Prop) (v : Value) (l : List Fr) : Prop :=
  ∃ a c g o, v = .slice a l.length c ∧ (l.length ≤ maxLen ∧ l.length ≤ c) ∧ (l ≠ [] → a = some ⟨g, o, none⟩) ∧ FrAt W S g o l

theorem lt_of_same {W W' : World} {g : Nat} (hg : g < W.heap.size) (hb : W'.heap[g]? = W.heap[g]?) : g < W'.heap.size := by
  rcases Nat.lt_or_ge g W'.heap.size with h | h
  · exact h
  · rw [Array.getElem?_eq_none h, Array.getElem?_eq_getElem hg] at hb; cases hb
theorem FrAt.keep {W W' : World} {S S' : Nat → Prop} {g o : Nat} {l : List Fr} (h : FrAt W S g o l) (hk : ∀ b, S b → b < W.heap.size → W'.heap[b]? = W.heap[b]? ∧ S' b) : FrAt W' S' g o l := by
  induction h with
  | nil g o => exact .nil g o
  | cons hs hg h0 h1 h2 h3 h4 h5 h6 hm ha _ _ ih1 ih2 =>
    obtain ⟨hb, hs'⟩ := hk _ hs hg
    have hc : ∀ i, W'.cell? ⟨_, i, none⟩ = W.cell? ⟨_, i, none⟩ := fun i => World.cell?_of_block (a := ⟨_, i, none⟩) hb
    exact .cons hs' (lt_of_same hg hb) ((hc _).trans h0) ((hc _).trans h1) ((hc _).trans h2) ((hc _).trans h3) ((hc _).trans h4) ((hc _).trans h5) ((hc _).trans h6) hm ha ih1 ih2
theorem FrRead.keep {W W' : World} {S S' : Nat → Prop} {v : Value} {l : List Fr} (h : FrRead W S v l) (hk : ∀ b, S b → b < W.heap.size → W'.heap[b]? = W.heap[b]? ∧ S' b) : FrRead W' S' v l := by
  obtain ⟨a, c, g, o, hv, hm, ha, hr⟩ := h
  exact ⟨a, c, g, o, hv, hm, ha, hr.keep hk⟩
theorem FrRead.bl {W W' : World} {S : Nat → Prop} {v : Value} {l : List Fr} (h : FrRead W S v l) (hb : Below W.heap.size W W') : FrRead W' S v l := h.keep fun b hs hlt => ⟨hb.block b hlt, hs⟩
theorem FrRead.nil (W : World) (S : Nat → Prop) (a : Option Addr) (c : Nat) : FrRead W S (.slice a 0 c) [] := ⟨a, c, 0, 0, rfl, ⟨Nat.zero_le _, Nat.zero_le _⟩, fun h => absurd rfl h, .nil _ _⟩

/-- The k-th fragment. -/
theorem FrAt.get {W : World} {S : Nat → Prop} : ∀ {l : List Fr} {g o : Nat}, FrAt W S g o l → ∀ {k : Nat} {f : Fr}, l[k]? = some f → ∃ kv, S g ∧ g < W.heap.size ∧
    W.cell? ⟨g, o + k * 7, none⟩ = some (.int .i64 f.tok.kind) ∧ W.cell? ⟨g, o + k * 7 + 1, none⟩ = some (.int .i64 f.tok.num) ∧ W.cell? ⟨g, o + k * 7 + 2, none⟩ = some (.string f.tok.text) ∧
    W.cell? ⟨g, o + k * 7 + 3, none⟩ = some (.int .i64 f.tok.at_) ∧ W.cell? ⟨g, o + k * 7 + 4, none⟩ = some (.int .i64 f.tok.mark) ∧ W.cell? ⟨g, o + k * 7 + 5, none⟩ = some (.string f.op) ∧
    W.cell? ⟨g, o + k * 7 + 6, none⟩ = some kv ∧ FrRead W S kv f.kids
  | [], _, _, _, k, f, hk => by cases hk
  | f0 :: l, g, o, h, 0, f, hk => by
    simp only [List.getElem?_cons_zero, Option.some.injEq] at hk
    subst hk
    cases h with
    | cons hs hg h0 h1 h2 h3 h4 h5 h6 hm ha hkk _ =>
      simp only [Nat.zero_mul, Nat.add_zero]
      exact ⟨_, hs, hg, h0, h1, h2, h3, h4, h5, h6, _, _, _, _, rfl, hm, ha, hkk⟩
  | f0 :: l, g, o, h, k + 1, f, hk => by
    rw [List.getElem?_cons_succ] at hk
    cases h with
    | cons _ _ _ _ _ _ _ _ _ _ _ _ hl =>
      have := hl.get hk
      rw [show o + (k + 1) * 7 = o + 7 + k * 7 by omega]
      exact this

/-- The cells of a fragment whose list of fragments is a value. -/
def frC (t : Tok) (op : ByteArray) (kv : Value) : List Value := [.int .i64 t.kind, .int .i64 t.num, .string t.text, .int .i64 t.at_, .int .i64 t.mark, .string op, kv]
/-- The cells of fragments. -/
def KidsC (W : World) (S : Nat → Prop) : List Fr → List Value → Prop
  | [], xs => xs = []
  | f :: l, xs => ∃ kv r, xs = frC f.tok f.op kv ++ r ∧ FrRead W S kv f.kids ∧ KidsC W S l r
theorem KidsC.len {W : World} {S : Nat → Prop} : ∀ {l : List Fr} {xs : List Value}, KidsC W S l xs → xs.length = l.length * 7
  | [], xs, h => by cases (h : xs = []); rfl
  | f :: l, xs, ⟨kv, r, hx, _, hr⟩ => by
    subst hx
    have := hr.len
    simp only [List.length_append, List.length_cons, frC, List.length_nil, this]; omega
theorem KidsC.add {W : World} {S : Nat → Prop} {f : Fr} {kv : Value} (hf : FrRead W S kv f.kids) : ∀ {l : List Fr} {xs : List Value}, KidsC W S l xs → KidsC W S (l ++ [f]) (xs ++ frC f.tok f.op kv)
  | [], xs, h => by cases (h : xs = []); exact ⟨kv, [], by simp, hf, rfl⟩
  | f0 :: l, xs, ⟨kv0, r, hx, h0, hr⟩ => ⟨kv0, r ++ frC f.tok f.op kv, by rw [hx, List.append_assoc], h0, hr.add hf⟩
theorem KidsC.keep {W W' : World} {S S' : Nat → Prop} (hk : ∀ b, S b → b < W.heap.size → W'.heap[b]? = W.heap[b]? ∧ S' b) : ∀ {l : List Fr} {xs : List Value}, KidsC W S l xs → KidsC W' S' l xs
  | [], _, h => h
  | _ :: _, _, ⟨kv, r, hx, h0, hr⟩ => ⟨kv, r, hx, h0.keep hk, hr.keep hk⟩
/-- Cells that lie in memory are fragments there. -/
theorem KidsC.lie {W : World} {S : Nat → Prop} {g : Nat} (hs : S g) (hg : g < W.heap.size) : ∀ {l : List Fr} {xs : List Value} {o : Nat}, KidsC W S l xs → (∀ j v, xs[j]? = some v → W.cell? ⟨g, o + j, none⟩ = some v) → FrAt W S g o l
  | [], _, _, _, _ => .nil _ _
  | .mk t op ks :: l, xs, o, ⟨kv, r, hx, ⟨a, c, g', o', hkv, hm, ha, hr0⟩, hr⟩, hc => by
    subst hx
    simp only [Fr.kids] at hkv hm ha hr0
    subst hkv
    simp only [Fr.tok, Fr.op] at hc
    refine .cons hs hg (hc 0 _ rfl) (hc 1 _ rfl) (hc 2 _ rfl) (hc 3 _ rfl) (hc 4 _ rfl) (hc 5 _ rfl) (hc 6 _ rfl) hm ha hr0 (hr.lie hs hg fun j v hj => ?_)
    rw [Nat.add_assoc]
    refine hc (7 + j) v ?_
    rw [List.getElem?_append_right (by simp [frC])]
    simpa [frC] using hj
/-- A list of fragments that a call owns can be read. -/
theorem kids_read {W : World} {S S' : Nat → Prop} {base n : Nat} {v : Value} {xs : List Value} {l : List Fr} (h : W.ownsRow base 52 7 v n xs) (hn : n = l.length) (hk : KidsC W S l xs) (hS : ∀ b, S b → b < W.heap.size → S' b) (hv : ∀ b, v.ownBlock = some b → S' b) : FrRead W S' v l := by
  have hk' : KidsC W S' l xs := hk.keep fun b hs hlt => ⟨rfl, hS b hs hlt⟩
  obtain ⟨hlen, ⟨rfl, h0⟩ | ⟨g, cap, cur, rfl, hb, ho, hc, hm, hz, ht⟩⟩ := h
  · obtain rfl : l = [] := List.eq_nil_of_length_eq_zero (by omega)
    exact .nil _ _ _ _
  · subst hn
    have hg : g < W.heap.size := (Array.getElem?_eq_some_iff.1 ho).1
    refine ⟨_, cap, g, 0, rfl, ⟨by omega, hc⟩, fun _ => rfl, hk'.lie (hv g rfl) hg fun j v hj => ?_⟩
    rw [Nat.zero_add]
    simp only [World.cell?, ho]
    rw [← ht, List.getElem?_take] at hj
    split at hj
    · simpa using hj
    · cases hj

/-- An open group: its token, opening, fragments, and the index of the token; and the list of its fragments in memory. -/
structure Gp where
  tok : Tok
  op : ByteArray
  kids : List Fr
  from_ : Int
  kv : Value
def gpC (f : Gp) : List Value := frC f.tok f.op f.kv ++ [.int .i64 f.from_]
/-- The cells of the open groups, the innermost one first in the list, and last in memory. -/
def gpsC : List Gp → List Value
  | [] => []
  | f :: r => gpsC r ++ gpC f
theorem gpsC_len : ∀ l : List Gp, (gpsC l).length = l.length * 8
  | [] => rfl
  | f :: r => by simp only [gpsC, List.length_append, gpsC_len r, gpC, frC, List.length_cons, List.length_nil]; omega

/-- The blocks that a reader writes to. -/
def Live (r mb : Nat) (gv : Value) (fs : List Gp) (b : Nat) : Prop := b = r ∨ b = mb ∨ gv.ownBlock = some b ∨ ∃ f ∈ fs, f.kv.ownBlock = some b

/-- What a reader holds. -/
structure RdI (B r mb : Nat) (vt : Value) (at_ : Int) (gv : Value) (fs : List Gp) (W : World) : Prop where
  base : B ≤ r ∧ B ≤ mb ∧ mb < W.heap.size
  rd : W.heap[r]? = some (.cells #[vt, .int .i64 at_, gv, .map (some mb)] 101 (0, 0))
  mapb : ∀ cs e z, W.heap[mb]? ≠ some (.cells cs e z)
  gs : W.ownsRow B 97 8 gv fs.length (gpsC fs)
  kids : ∀ f ∈ fs, ∃ xs, W.ownsRow B 52 7 f.kv f.kids.length xs ∧ KidsC W (fun b => ¬ Live r mb gv fs b) f.kids xs
  apart : fs.Pairwise fun f f' => ∀ b, f.kv.ownBlock = some b → f'.kv.ownBlock ≠ some b

/-- A block that a list owns holds cells of its type. -/
theorem owned_cells {W : World} {base e size n : Nat} {v : Value} {xs : List Value} (h : W.ownsRow base e size v n xs) {b : Nat} (hb : v.ownBlock = some b) : base ≤ b ∧ ∃ cs, W.heap[b]? = some (.cells cs e (0, 0)) := by
  obtain ⟨_, ⟨rfl, _⟩ | ⟨g, cap, cur, rfl, h1, h2, _⟩⟩ := h
  · cases hb
  · cases hb; exact ⟨h1, _, h2⟩
theorem owns_keep {W W' : World} {base e size n : Nat} {v : Value} {xs : List Value} (h : W.ownsRow base e size v n xs) (hk : ∀ b, v.ownBlock = some b → W'.heap[b]? = W.heap[b]?) : W'.ownsRow base e size v n xs := by
  obtain ⟨h0, h | ⟨g, cap, cur, rfl, h1, h2, h3⟩⟩ := h
  · exact ⟨h0, .inl h⟩
  · exact ⟨h0, .inr ⟨g, cap, cur, rfl, h1, (hk g rfl).trans h2, h3⟩⟩

section
variable {B r mb : Nat} {vt : Value} {at_ : Int} {gv : Value} {fs : List Gp} {W W' : World}

theorem RdI.keep (h : RdI B r mb vt at_ gv fs W) (hk : ∀ b, B ≤ b → b < W.heap.size → W'.heap[b]? = W.heap[b]?) (hlow : ∀ b, b < B → b < W.heap.size → W'.heap[b]? = W.heap[b]?) : RdI B r mb vt at_ gv fs W' := by
  have hall : ∀ b, b < W.heap.size → W'.heap[b]? = W.heap[b]? := fun b hb => by
    rcases Nat.lt_or_ge b B with h1 | h1
    · exact hlow b h1 hb
    · exact hk b h1 hb
  have hr := (Array.getElem?_eq_some_iff.1 h.rd).1
  refine ⟨⟨h.base.1, h.base.2.1, lt_of_same h.base.2.2 (hall _ h.base.2.2)⟩, (hall _ hr).trans h.rd, fun cs e z => by rw [hall _ h.base.2.2]; exact h.mapb cs e z, owns_keep h.gs fun b hb => ?_, fun f hf => ?_, h.apart⟩
  · obtain ⟨_, cs, hcs⟩ := owned_cells h.gs hb
    exact hall _ (Array.getElem?_eq_some_iff.1 hcs).1
  · obtain ⟨xs, h1, h2⟩ := h.kids f hf
    refine ⟨xs, owns_keep h1 fun b hb => ?_, h2.keep fun b hs hlt => ⟨hall b hlt, hs⟩⟩
    obtain ⟨_, cs, hcs⟩ := owned_cells h1 hb
    exact hall _ (Array.getElem?_eq_some_iff.1 hcs).1
theorem RdI.bl (h : RdI B r mb vt at_ gv fs W) (hb : Below W.heap.size W W') : RdI B r mb vt at_ gv fs W' := h.keep (fun b _ hlt => hb.block b hlt) (fun b _ hlt => hb.block b hlt)

/-- The blocks of a reader are apart. -/
theorem RdI.diff (h : RdI B r mb vt at_ gv fs W) : r ≠ mb ∧ (∀ b, gv.ownBlock = some b → b ≠ r ∧ b ≠ mb) ∧ ∀ f ∈ fs, ∀ b, f.kv.ownBlock = some b → b ≠ r ∧ b ≠ mb ∧ gv.ownBlock ≠ some b := by
  have hm : ∀ {b : Nat} {cs e z}, W.heap[b]? = some (.cells cs e z) → b ≠ mb := fun hb he => by subst he; exact h.mapb _ _ _ hb
  refine ⟨hm h.rd, fun b hb => ?_, fun f hf b hb => ?_⟩
  · obtain ⟨_, cs, hcs⟩ := owned_cells h.gs hb
    refine ⟨fun he => ?_, hm hcs⟩
    subst he
    rw [h.rd] at hcs
    simp at hcs
  · obtain ⟨xs, h1, _⟩ := h.kids f hf
    obtain ⟨_, cs, hcs⟩ := owned_cells h1 hb
    refine ⟨fun he => ?_, hm hcs, fun he => ?_⟩
    · subst he
      rw [h.rd] at hcs
      simp at hcs
    · obtain ⟨_, cs', hcs'⟩ := owned_cells h.gs he
      rw [hcs'] at hcs
      simp at hcs

theorem heap_set' (W : World) (g j : Nat) (u : Value) {cs : Array Value} {e : TypeId} {z : Nat × Nat} (h : W.heap[g]? = some (.cells cs e z)) : (W.setCell ⟨g, j, none⟩ u).heap[g]? = some (.cells (cs.setIfInBounds j u) e z) := heap_set W g j _ _ _ _ h
theorem set_ne (W : World) (g j : Nat) (u : Value) {b : Nat} (h : b ≠ g) : (W.setCell ⟨g, j, none⟩ u).heap[b]? = W.heap[b]? := Below.heap_setCell W ⟨g, j, none⟩ u b h
theorem set_size (W : World) (a : Addr) (u : Value) : (W.setCell a u).heap.size = W.heap.size := by simp [World.setCell]

/-- One cell of an owned list is set. -/
theorem owns_set1 {base e size n g cap : Nat} {a : Value} {xs : List Value} (h : W.ownsRow base e size (.slice (some ⟨g, 0, none⟩) n cap) n xs) (j : Nat) : (W.setCell ⟨g, j, none⟩ a).ownsRow base e size (.slice (some ⟨g, 0, none⟩) n cap) n (xs.set j a) := by
  obtain ⟨h0, ⟨h, _⟩ | ⟨g', cap', cur, h, h1, h2, h3, h4, h5, h6⟩⟩ := h
  · simp at h
  · simp only [Value.slice.injEq, Option.some.injEq, Addr.mk.injEq, and_true, true_and] at h
    obtain ⟨rfl, rfl⟩ := h
    refine ⟨by simpa using h0, .inr ⟨g, cap, cur.setIfInBounds j a, rfl, h1, heap_set' W g j a h2, h3, h4, by simpa using h5, ?_⟩⟩
    rw [Array.toList_setIfInBounds, List.take_set, h6]

/-- The reader's index is changed. -/
theorem RdI.step (h : RdI B r mb vt at_ gv fs W) (at' : Int) : RdI B r mb vt at' gv fs (W.setCell ⟨r, 1, none⟩ (.int .i64 at')) := by
  obtain ⟨d1, d2, d3⟩ := h.diff
  refine ⟨⟨h.base.1, h.base.2.1, by rw [set_size]; exact h.base.2.2⟩, heap_set' W r 1 _ h.rd, fun cs e z => by rw [set_ne _ _ _ _ (Ne.symm d1)]; exact h.mapb cs e z, owns_keep h.gs fun b hb => set_ne _ _ _ _ (d2 b hb).1, fun f hf => ?_, h.apart⟩
  obtain ⟨xs, h1, h2⟩ := h.kids f hf
  exact ⟨xs, owns_keep h1 fun b hb => set_ne _ _ _ _ (d3 f hf b hb).1, h2.keep fun b hs _ => ⟨set_ne _ _ _ _ (fun he => hs (.inl he)), hs⟩⟩

/-- The innermost group is closed. -/
theorem RdI.pop {f f2 : Gp} {rest : List Gp} {gb cap : Nat} (hgv : gv = .slice (some ⟨gb, 0, none⟩) (rest.length + 2) cap) (h : RdI B r mb vt at_ gv (f :: f2 :: rest) W) :
    RdI B r mb vt at_ (.slice (some ⟨gb, 0, none⟩) (rest.length + 1) cap) (f2 :: rest) (W.setCell ⟨r, 2, none⟩ (.slice (some ⟨gb, 0, none⟩) (rest.length + 1) cap)) ∧
    FrRead (W.setCell ⟨r, 2, none⟩ (.slice (some ⟨gb, 0, none⟩) (rest.length + 1) cap)) (fun b => ¬ Live r mb (.slice (some ⟨gb, 0, none⟩) (rest.length + 1) cap) (f2 :: rest) b) f.kv f.kids := by
  obtain ⟨d1, d2, d3⟩ := h.diff
  subst hgv
  have hgs := h.gs
  have hS : ∀ b, ¬ Live r mb (.slice (some ⟨gb, 0, none⟩) (rest.length + 2) cap) (f :: f2 :: rest) b → ¬ Live r mb (.slice (some ⟨gb, 0, none⟩) (rest.length + 1) cap) (f2 :: rest) b := fun b hs hl => hs (by
    rcases hl with h1 | h1 | h1 | ⟨f', h1, h2⟩
    · exact .inl h1
    · exact .inr (.inl h1)
    · exact .inr (.inr (.inl h1))
    · exact .inr (.inr (.inr ⟨f', List.mem_cons_of_mem _ h1, h2⟩)))
  have hkeep : ∀ b, ¬ Live r mb (.slice (some ⟨gb, 0, none⟩) (rest.length + 2) cap) (f :: f2 :: rest) b → (W.setCell ⟨r, 2, none⟩ (.slice (some ⟨gb, 0, none⟩) (rest.length + 1) cap)).heap[b]? = W.heap[b]? := fun b hs => set_ne _ _ _ _ (fun he => hs (.inl he))
  refine ⟨⟨⟨h.base.1, h.base.2.1, by rw [set_size]; exact h.base.2.2⟩, heap_set' W r 2 _ h.rd, fun cs e z => by rw [set_ne _ _ _ _ (Ne.symm d1)]; exact h.mapb cs e z, ?_, fun f' hf => ?_, (List.pairwise_cons.1 h.apart).2⟩, ?_⟩
  · obtain ⟨h0, ⟨h, _⟩ | ⟨g', cap', cur, h, h1, h2, h3, h4, h5, h6⟩⟩ := hgs
    · simp at h
    · simp only [Value.slice.injEq, Option.some.injEq, Addr.mk.injEq, and_true] at h
      obtain ⟨rfl, _, rfl⟩ := h
      refine ⟨gpsC_len _, .inr ⟨gb, cap, cur, rfl, h1, (set_ne _ _ _ _ (d2 gb rfl).1).trans h2, by simp only [List.length_cons] at h3 ⊢; omega, h4, h5, ?_⟩⟩
      have hq := congrArg (List.take ((f2 :: rest).length * 8)) h6
      rw [List.take_take, Nat.min_eq_left (by simp only [List.length_cons]; omega)] at hq
      rw [hq, show gpsC (f :: f2 :: rest) = gpsC (f2 :: rest) ++ gpC f from rfl, List.take_left' (by rw [gpsC_len])]
  · obtain ⟨xs, h1, h2⟩ := h.kids f' (List.mem_cons_of_mem _ hf)
    exact ⟨xs, owns_keep h1 fun b hb => set_ne _ _ _ _ (d3 f' (List.mem_cons_of_mem _ hf) b hb).1, h2.keep fun b hs _ => ⟨hkeep b hs, hS b hs⟩⟩
  · obtain ⟨xs, h1, h2⟩ := h.kids f (List.mem_cons_self)
    refine (kids_read h1 rfl h2 (S' := fun b => ¬ Live r mb (.slice (some ⟨gb, 0, none⟩) (rest.length + 1) cap) (f2 :: rest) b) (fun b hs _ => hS b hs) fun b hb hl => ?_).keep fun b hs _ => ⟨?_, hs⟩
    · obtain ⟨e1, e2, e3⟩ := d3 f (List.mem_cons_self) b hb
      rcases hl with h1 | h1 | h1 | ⟨f', h1, h2⟩
      · exact e1 h1
      · exact e2 h1
      · exact e3 h1
      · exact (List.pairwise_cons.1 h.apart).1 f' h1 b hb h2
    · exact set_ne _ _ _ _ (fun he => hs (.inl he))

/-- A fragment is put into the innermost group: its list has grown, and the group has the new list. -/
theorem RdI.add {f : Gp} {rest : List Gp} {gb cap : Nat} (hgv : gv = .slice (some ⟨gb, 0, none⟩) (rest.length + 1) cap) (h : RdI B r mb vt at_ gv (f :: rest) W) {f0 : Fr} {kv0 : Value}
    (hf0 : FrRead W (fun b => ¬ Live r mb gv (f :: rest) b) kv0 f0.kids) {xs : List Value} (hx : KidsC W (fun b => ¬ Live r mb gv (f :: rest) b) f.kids xs) {W1 : World} {g1 cap1 : Nat}
    (h1 : W1.ownsRow B 52 7 (.slice (some ⟨g1, 0, none⟩) (f.kids.length + 1) cap1) (f.kids.length + 1) (xs ++ frC f0.tok f0.op kv0))
    (hsz : W.heap.size ≤ W1.heap.size) (hgr : ∀ b, b < W.heap.size → f.kv.ownBlock ≠ some b → W1.heap[b]? = W.heap[b]?) (hat : f.kv.ownBlock = some g1 ∨ W.heap.size ≤ g1) :
    RdI B r mb vt at_ gv ({ f with kids := f.kids ++ [f0], kv := .slice (some ⟨g1, 0, none⟩) (f.kids.length + 1) cap1 } :: rest) (W1.setCell ⟨gb, rest.length * 8 + 6, none⟩ (.slice (some ⟨g1, 0, none⟩) (f.kids.length + 1) cap1)) := by
  obtain ⟨d1, d2, d3⟩ := h.diff
  subst hgv
  obtain ⟨e1, e2, e3⟩ := (fun b hb => d3 f (List.mem_cons_self) b hb : ∀ b, f.kv.ownBlock = some b → b ≠ r ∧ b ≠ mb ∧ _) |> fun z => (⟨fun b hb => (z b hb).1, fun b hb => (z b hb).2.1, fun b hb => (z b hb).2.2⟩ : (∀ b, f.kv.ownBlock = some b → b ≠ r) ∧ (∀ b, f.kv.ownBlock = some b → b ≠ mb) ∧ ∀ b, f.kv.ownBlock = some b → (Value.slice (some ⟨gb, 0, none⟩) (rest.length + 1) cap).ownBlock ≠ some b)
  obtain ⟨_, cg, hcg⟩ := owned_cells h.gs (b := gb) rfl
  have hgbl : gb < W.heap.size := (Array.getElem?_eq_some_iff.1 hcg).1
  have hgb1 : W1.heap[gb]? = W.heap[gb]? := hgr gb hgbl fun hb => e3 gb hb rfl
  obtain ⟨_, c1, hc1⟩ := owned_cells h1 (b := g1) rfl
  have hne : g1 ≠ gb := fun he => by subst he; rw [hgb1, hcg] at hc1; simp at hc1
  have hrl : r < W.heap.size := (Array.getElem?_eq_some_iff.1 h.rd).1
  have hset : ∀ b, b ≠ gb → (W1.setCell ⟨gb, rest.length * 8 + 6, none⟩ (.slice (some ⟨g1, 0, none⟩) (f.kids.length + 1) cap1)).heap[b]? = W1.heap[b]? := fun b hb => set_ne _ _ _ _ hb
  have hSk : ∀ b, ¬ Live r mb (.slice (some ⟨gb, 0, none⟩) (rest.length + 1) cap) (f :: rest) b → b < W.heap.size → (W1.setCell ⟨gb, rest.length * 8 + 6, none⟩ (.slice (some ⟨g1, 0, none⟩) (f.kids.length + 1) cap1)).heap[b]? = W.heap[b]? ∧
      ¬ Live r mb (.slice (some ⟨gb, 0, none⟩) (rest.length + 1) cap) ({ f with kids := f.kids ++ [f0], kv := .slice (some ⟨g1, 0, none⟩) (f.kids.length + 1) cap1 } :: rest) b := fun b hs hlt => by
    refine ⟨(hset b fun he => hs (.inr (.inr (.inl (by rw [he]; rfl))))).trans (hgr b hlt fun hb => hs (.inr (.inr (.inr ⟨f, List.mem_cons_self, hb⟩)))), fun hl => ?_⟩
    rcases hl with q | q | q | ⟨f', q, q2⟩
    · exact hs (.inl q)
    · exact hs (.inr (.inl q))
    · exact hs (.inr (.inr (.inl q)))
    · rcases List.mem_cons.1 q with rfl | q
      · have hbg : g1 = b := by simpa [Value.ownBlock] using q2
        subst hbg
        rcases hat with hat | hat
        · exact hs (.inr (.inr (.inr ⟨f, List.mem_cons_self, hat⟩)))
        · omega
      · exact hs (.inr (.inr (.inr ⟨f', List.mem_cons_of_mem _ q, q2⟩)))
  have hmb : (W1.setCell ⟨gb, rest.length * 8 + 6, none⟩ (.slice (some ⟨g1, 0, none⟩) (f.kids.length + 1) cap1)).heap[mb]? = W.heap[mb]? := (hset mb (Ne.symm (d2 gb rfl).2)).trans (hgr mb h.base.2.2 fun hb => e2 mb hb rfl)
  refine ⟨⟨h.base.1, h.base.2.1, by rw [set_size]; exact Nat.lt_of_lt_of_le h.base.2.2 hsz⟩, (hset r (Ne.symm (d2 gb rfl).1)).trans ((hgr r hrl fun hb => e1 r hb rfl).trans h.rd), fun cs e z => by rw [hmb]; exact h.mapb cs e z, ?_, fun f' hf' => ?_, ?_⟩
  · have hq := owns_set1 (a := .slice (some ⟨g1, 0, none⟩) (f.kids.length + 1) cap1) (owns_keep h.gs fun b hb => by cases hb; exact hgb1) (rest.length * 8 + 6)
    have e : (gpsC (f :: rest)).set (rest.length * 8 + 6) (.slice (some ⟨g1, 0, none⟩) (f.kids.length + 1) cap1) = gpsC ({ f with kids := f.kids ++ [f0], kv := .slice (some ⟨g1, 0, none⟩) (f.kids.length + 1) cap1 } :: rest) := by
      show (gpsC rest ++ gpC f).set _ _ = gpsC rest ++ gpC _
      rw [List.set_append_right _ _ (by rw [gpsC_len]; omega), gpsC_len, Nat.add_sub_cancel_left]
      rfl
    rw [← e]
    exact hq
  · rcases List.mem_cons.1 hf' with rfl | hf'
    · refine ⟨xs ++ frC f0.tok f0.op kv0, ?_, (KidsC.add hf0 hx).keep hSk⟩
      simp only [List.length_append, List.length_cons, List.length_nil, Nat.zero_add]
      exact owns_keep h1 fun b hb => by cases hb; exact hset g1 hne
    · obtain ⟨xs', q1, q2⟩ := h.kids f' (List.mem_cons_of_mem _ hf')
      refine ⟨xs', owns_keep q1 fun b hb => ?_, q2.keep hSk⟩
      obtain ⟨_, cs, hcs⟩ := owned_cells q1 hb
      have hlt := (Array.getElem?_eq_some_iff.1 hcs).1
      refine (hset b fun he => (d3 f' (List.mem_cons_of_mem _ hf') b hb).2.2 (by rw [he]; rfl)).trans (hgr b hlt fun hb' => ?_)
      exact (List.pairwise_cons.1 h.apart).1 f' hf' b hb' hb
  · refine List.pairwise_cons.2 ⟨fun f' hf' b hb hb' => ?_, (List.pairwise_cons.1 h.apart).2⟩
    have hbg : g1 = b := by simpa [Value.ownBlock] using hb
    subst hbg
    rcases hat with hat | hat
    · exact (List.pairwise_cons.1 h.apart).1 f' hf' g1 hat hb'
    · obtain ⟨xs', q1, _⟩ := h.kids f' (List.mem_cons_of_mem _ hf')
      obtain ⟨_, cs, hcs⟩ := owned_cells q1 hb'
      have hlt := (Array.getElem?_eq_some_iff.1 hcs).1
      omega

/-- A group is opened. -/
theorem RdI.push {g : Gp} (hk0 : g.kids = []) (hv0 : g.kv = .slice none 0 0) (h : RdI B r mb vt at_ gv fs W) {W1 : World} {g1 cap1 : Nat}
    (h1 : W1.ownsRow B 97 8 (.slice (some ⟨g1, 0, none⟩) (fs.length + 1) cap1) (fs.length + 1) (gpsC fs ++ gpC g))
    (hsz : W.heap.size ≤ W1.heap.size) (hgr : ∀ b, b < W.heap.size → gv.ownBlock ≠ some b → W1.heap[b]? = W.heap[b]?) (hat : gv.ownBlock = some g1 ∨ W.heap.size ≤ g1) :
    RdI B r mb vt at_ (.slice (some ⟨g1, 0, none⟩) (fs.length + 1) cap1) (g :: fs) (W1.setCell ⟨r, 2, none⟩ (.slice (some ⟨g1, 0, none⟩) (fs.length + 1) cap1)) := by
  obtain ⟨d1, d2, d3⟩ := h.diff
  have hrl : r < W.heap.size := (Array.getElem?_eq_some_iff.1 h.rd).1
  have hr1 : W1.heap[r]? = W.heap[r]? := hgr r hrl fun hb => (d2 r hb).1 rfl
  obtain ⟨_, c1, hc1⟩ := owned_cells h1 (b := g1) rfl
  have hne : g1 ≠ r := fun he => by subst he; rw [hr1, h.rd] at hc1; simp at hc1
  have hset : ∀ b, b ≠ r → (W1.setCell ⟨r, 2, none⟩ (.slice (some ⟨g1, 0, none⟩) (fs.length + 1) cap1)).heap[b]? = W1.heap[b]? := fun b hb => set_ne _ _ _ _ hb
  have hmb : (W1.setCell ⟨r, 2, none⟩ (.slice (some ⟨g1, 0, none⟩) (fs.length + 1) cap1)).heap[mb]? = W.heap[mb]? := (hset mb (Ne.symm d1)).trans (hgr mb h.base.2.2 fun hb => (d2 mb hb).2 rfl)
  have hSk : ∀ b, ¬ Live r mb gv fs b → b < W.heap.size → (W1.setCell ⟨r, 2, none⟩ (.slice (some ⟨g1, 0, none⟩) (fs.length + 1) cap1)).heap[b]? = W.heap[b]? ∧ ¬ Live r mb (.slice (some ⟨g1, 0, none⟩) (fs.length + 1) cap1) (g :: fs) b := fun b hs hlt => by
    refine ⟨(hset b fun he => hs (.inl he)).trans (hgr b hlt fun hb => hs (.inr (.inr (.inl hb)))), fun hl => ?_⟩
    rcases hl with q | q | q | ⟨f', q, q2⟩
    · exact hs (.inl q)
    · exact hs (.inr (.inl q))
    · have hbg : g1 = b := by simpa [Value.ownBlock] using q
      subst hbg
      rcases hat with hat | hat
      · exact hs (.inr (.inr (.inl hat)))
      · omega
    · rcases List.mem_cons.1 q with rfl | q
      · rw [hv0] at q2; cases q2
      · exact hs (.inr (.inr (.inr ⟨f', q, q2⟩)))
  refine ⟨⟨h.base.1, h.base.2.1, by rw [set_size]; exact Nat.lt_of_lt_of_le h.base.2.2 hsz⟩, heap_set' W1 r 2 _ (hr1.trans h.rd), fun cs e z => by rw [hmb]; exact h.mapb cs e z, owns_keep h1 fun b hb => by cases hb; exact hset g1 hne, fun f' hf' => ?_, List.pairwise_cons.2 ⟨fun f' hf' b hb => (by rw [hv0] at hb; cases hb), h.apart⟩⟩
  rcases List.mem_cons.1 hf' with rfl | hf'
  · rw [hk0, hv0]
    exact ⟨[], World.ownsRow_nil _ _ _ _, rfl⟩
  · obtain ⟨xs', q1, q2⟩ := h.kids f' hf'
    refine ⟨xs', owns_keep q1 fun b hb => ?_, q2.keep hSk⟩
    obtain ⟨_, cs, hcs⟩ := owned_cells q1 hb
    have hlt := (Array.getElem?_eq_some_iff.1 hcs).1
    exact (hset b (d3 f' hf' b hb).1).trans (hgr b hlt fun hb' => (d3 f' hf' b hb).2.2 hb')
end
end Go.Proofs.YtopbmndjnjnmcaaGreatDoor
