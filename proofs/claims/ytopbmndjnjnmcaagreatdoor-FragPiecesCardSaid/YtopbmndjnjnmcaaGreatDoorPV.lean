/- Package fragment: what FragLists and FragPieces want of the texts RT to VA. -/
import Derived.Test.YtopbmndjnjnmcaaGreatDoorLF
import Derived.Lib.AppendStr
import Derived.Laws.IdiomStrings
/- Package fragment: the rest of a reading with its verdict, step by step, as the reference's reader (skerryref02 Read) looks at it: for FragReads. -/
namespace Go.Proofs.YtopbmndjnjnmcaaGreatDoor
open Go.RowKit Lx
/- (P20) -/
section
variable {ts : List Tok} {ws : List ByteArray}
/-- The rest of a reading, with its verdict. -/
def V (ts : List Tok) (ws : List ByteArray) (s : Rst) : Rd := match pGo ts ws (ts.length - s.at_) s with
  | .bad e i => .bad e i
  | .ok s => if s.stk.length = 0 then .ok s.g.kids else .bad 21 s.g.from_
/-! What the reference looks at. -/
end
/- (P21) -/
section
variable {ts : List Tok} {ws : List ByteArray}
/-! The steps, as the reference takes them. -/
end
/- (P22) -/
section
variable {ts : List Tok} {ws : List ByteArray}
/-- The first token of so many behind an index that is not valid. -/
def badAt (ts : List Tok) : Nat → Nat → Option Nat
  | 0, _ => none
  | n + 1, i => match ts[i]? with
    | some t => if tokOk t = true then badAt ts n (i + 1) else some i
    | none => some i
end
end Go.Proofs.YtopbmndjnjnmcaaGreatDoor

/- Package fragment: the reference's small functions of reading (skerryref02: isName, bracket, closes, fits, fail, check, word, stop) and its reader in memory: for FragReads. -/
namespace Go.Proofs.YtopbmndjnjnmcaaGreatDoor
open Go.RowKit Lx
/- (P23) -/
attribute [local go_sem] Oper.semAt_some
/- (P24) -/
/- (P25) -/
/-- The reference's reader in memory. -/
structure RdR (B r : Nat) (vt vw : Value) (at_ op e wh : Int) (W : World) : Prop where
  base : B ≤ r
  row : W.heap[r]? = some (.cells #[vt, vw, .int .i64 at_, .int .i64 op, .int .i64 e, .int .i64 wh] 76 (0, 0))
section
variable {B r : Nat} {vt vw : Value} {at_ op e wh : Int} {w W : World}
theorem RdR.cells (h : RdR B r vt vw at_ op e wh W) : W.cell? ⟨r, 0, none⟩ = some vt ∧ W.cell? ⟨r, 1, none⟩ = some vw ∧ W.cell? ⟨r, 2, none⟩ = some (.int .i64 at_) ∧ W.cell? ⟨r, 3, none⟩ = some (.int .i64 op) ∧ W.cell? ⟨r, 4, none⟩ = some (.int .i64 e) ∧ W.cell? ⟨r, 5, none⟩ = some (.int .i64 wh) := by
  refine ⟨?_, ?_, ?_, ?_, ?_, ?_⟩ <;> (rw [cell_of_row _ _ _ _ _ _ h.row]; rfl)
theorem RdR.lt (h : RdR B r vt vw at_ op e wh W) : r < W.heap.size := by
  rcases Nat.lt_or_ge r W.heap.size with hl | hl
  · exact hl
  · have := h.row
    rw [Array.getElem?_eq_none hl] at this; cases this
theorem RdR.bl (h : RdR B r vt vw at_ op e wh W) {W' : World} (hb : Below W.heap.size W W') : RdR B r vt vw at_ op e wh W' := ⟨h.base, (hb.block r h.lt).trans h.row⟩
end
/- (P26) -/
section
variable {B r : Nat} {vt vw : Value} {at_ op wh : Int} {w W : World} {ts : List Tok}
end
/- (P27) -/
section
variable {B r : Nat} {vt vw : Value} {op e wh : Int} {w W : World} {ts : List Tok}
end
/- (P28) -/
section
variable {B r : Nat} {vt vw : Value} {op e wh : Int} {w W : World} {ts : List Tok}
end
/- (P29) -/
section
variable {ts : List Tok} {ws : List ByteArray}
end
end Go.Proofs.YtopbmndjnjnmcaaGreatDoor

/- Package fragment: the reference's opens and drop (skerryref02), and appends of words: for FragReads. -/
namespace Go.Proofs.YtopbmndjnjnmcaaGreatDoor
open Go.RowKit Lx
/- (U1) -/
attribute [local go_sem] Oper.semAt_some
section
variable {B r : Nat} {vt vw : Value} {at_ op e wh : Int} {w W : World}
end
section
variable {B r : Nat} {vt vw : Value} {at_ op wh : Int} {w W : World} {ts : List Tok}
end
end Go.Proofs.YtopbmndjnjnmcaaGreatDoor
namespace Go.Proofs.YtopbmndjnjnmcaaGreatDoor
open Go.RowKit Lx
/- (U2) -/
attribute [local go_sem] Oper.semAt_some
end Go.Proofs.YtopbmndjnjnmcaaGreatDoor
namespace Go.Proofs.YtopbmndjnjnmcaaGreatDoor
open Go.RowKit Lx
/- (U3) -/
attribute [local go_sem] Oper.semAt_some
section
variable {B r : Nat} {vt vw : Value} {at_ op e wh : Int} {w W : World} {ts : List Tok} {ws : List ByteArray}
end
end Go.Proofs.YtopbmndjnjnmcaaGreatDoor
namespace Go.Proofs.YtopbmndjnjnmcaaGreatDoor
open Go.RowKit Lx
/- (U4) -/
attribute [local go_sem] Oper.semAt_some
/-- What is left when names behind a group's end were passed over. -/
def DropR (ts : List Tok) (N a : Nat) (B r : Nat) (vt vw : Value) (op wh : Int) (W : World) : Prop :=
  ∃ at' e' wh' : Int, RdR B r vt vw at' op e' wh' W ∧ ((e' = 0 ∧ at' = ((a + N : Nat) : Int) ∧ wh' = wh ∧ badAt ts N a = none) ∨ (e' = 14 ∧ ∃ q : Nat, wh' = q ∧ badAt ts N a = some q))
/-- The round of the loop. -/
def DropI (ts : List Tok) (N a : Nat) (B r : Nat) (vt vw : Value) (op wh : Int) (w : World) (j : Nat) (at' e' wh' : Int) (W : World) : Prop :=
  RdR B r vt vw at' op e' wh' W ∧ w.grownBy W (some r) ∧ ((e' = 0 ∧ at' = ((a + j : Nat) : Int) ∧ wh' = wh ∧ badAt ts N a = badAt ts (N - j) (a + j)) ∨ (e' = 14 ∧ ∃ q : Nat, wh' = q ∧ badAt ts N a = some q))
theorem DropI.done {ts : List Tok} {N a B r : Nat} {vt vw : Value} {op wh : Int} {w W : World} {j : Nat} {at' e' wh' : Int} (h : DropI ts N a B r vt vw op wh w j at' e' wh' W) (hj : j = N ∨ e' ≠ 0) : DropR ts N a B r vt vw op wh W ∧ w.grownBy W (some r) := by
  obtain ⟨h1, h2, h3⟩ := h
  refine ⟨⟨_, _, _, h1, ?_⟩, h2⟩
  rcases h3 with ⟨e1, e2, e3, e4⟩ | h3
  · left
    rcases hj with rfl | hj
    · rw [Nat.sub_self] at e4
      exact ⟨e1, e2, e3, e4⟩
    · exact absurd e1 hj
  · exact .inr h3
section
variable {B r : Nat} {vt vw : Value} {op wh : Int} {w W : World} {ts : List Tok} {S : Nat → Prop} {l : List Fr} {kv : Value}
end
end Go.Proofs.YtopbmndjnjnmcaaGreatDoor

/- Package fragment: the reference's group and list (skerryref02), by induction over what is left of the tokens: for FragReads. -/
namespace Go.Proofs.YtopbmndjnjnmcaaGreatDoor
open Go.RowKit Lx
/- (U5) -/
attribute [local go_sem] Oper.semAt_some
end Go.Proofs.YtopbmndjnjnmcaaGreatDoor
namespace Go.Proofs.YtopbmndjnjnmcaaGreatDoor
open Go.RowKit Lx
/- (U5b) -/
attribute [local go_sem] Oper.semAt_some
theorem fr_cells {W : World} {g : Nat} {a0 a1 a2 a3 a4 a5 a6 : Value} (h : W.heap[g]? = some (.cells #[a0, a1, a2, a3, a4, a5, a6] 52 (0, 0))) :
    W.cell? ⟨g, 0, none⟩ = some a0 ∧ W.cell? ⟨g, 1, none⟩ = some a1 ∧ W.cell? ⟨g, 2, none⟩ = some a2 ∧ W.cell? ⟨g, 3, none⟩ = some a3 ∧ W.cell? ⟨g, 4, none⟩ = some a4 ∧ W.cell? ⟨g, 5, none⟩ = some a5 ∧ W.cell? ⟨g, 6, none⟩ = some a6 := by
  refine ⟨?_, ?_, ?_, ?_, ?_, ?_, ?_⟩ <;> (rw [cell_of_row _ _ _ _ _ _ h]; rfl)
theorem fr_free {W : World} {g : Nat} {cs : Array Value} (h : W.heap[g]? = some (.cells cs 52 (0, 0))) (j : Nat) : W.frozen? ⟨g, j, none⟩ = false := by
  unfold World.frozen?
  simp [h]
theorem RdR.ne {B r : Nat} {vt vw : Value} {at_ op e wh : Int} {W : World} (h : RdR B r vt vw at_ op e wh W) {g : Nat} (hg : r ≠ g) (j : Nat) (v : Value) : RdR B r vt vw at_ op e wh (W.setCell ⟨g, j, none⟩ v) :=
  ⟨h.base, (set_ne _ _ _ _ hg).trans h.row⟩
theorem FrRead.ne {W : World} {S : Nat → Prop} {v : Value} {l : List Fr} (h : FrRead W S v l) {g : Nat} (hg : ¬ S g) (j : Nat) (u : Value) : FrRead (W.setCell ⟨g, j, none⟩ u) S v l := h.keep fun _ hs _ => ⟨set_ne _ _ _ _ (fun e => hg (e ▸ hs)), hs⟩
/-- Seven cells are written. -/
def set7w (W : World) (g : Nat) (a0 a1 a2 a3 a4 a5 a6 : Value) : World := ((((((W.setCell ⟨g, 0, none⟩ a0).setCell ⟨g, 1, none⟩ a1).setCell ⟨g, 2, none⟩ a2).setCell ⟨g, 3, none⟩ a3).setCell ⟨g, 4, none⟩ a4).setCell ⟨g, 5, none⟩ a5).setCell ⟨g, 6, none⟩ a6
theorem set7w_heap {W : World} {g : Nat} {x0 x1 x2 x3 x4 x5 x6 : Value} (h : W.heap[g]? = some (.cells #[x0, x1, x2, x3, x4, x5, x6] 52 (0, 0))) (a0 a1 a2 a3 a4 a5 a6 : Value) :
    (set7w W g a0 a1 a2 a3 a4 a5 a6).heap[g]? = some (.cells #[a0, a1, a2, a3, a4, a5, a6] 52 (0, 0)) := by
  unfold set7w
  have h0 := heap_set' W g 0 a0 h
  have h1 := heap_set' _ g 1 a1 h0
  have h2 := heap_set' _ g 2 a2 h1
  have h3 := heap_set' _ g 3 a3 h2
  have h4 := heap_set' _ g 4 a4 h3
  have h5 := heap_set' _ g 5 a5 h4
  have h6 := heap_set' _ g 6 a6 h5
  simp only [List.setIfInBounds_toArray, List.set_cons_zero, List.set_cons_succ] at h6
  exact h6
theorem set7w_fr {W : World} {S : Nat → Prop} {v : Value} {l : List Fr} (h : FrRead W S v l) {g : Nat} (hg : ¬ S g) (a0 a1 a2 a3 a4 a5 a6 : Value) : FrRead (set7w W g a0 a1 a2 a3 a4 a5 a6) S v l :=
  ((((((h.ne hg _ _).ne hg _ _).ne hg _ _).ne hg _ _).ne hg _ _).ne hg _ _).ne hg _ _
section
variable {ts : List Tok} {ws : List ByteArray} {B r : Nat} {vt vw : Value} {w0 w : World}
end
end Go.Proofs.YtopbmndjnjnmcaaGreatDoor
namespace Go.Proofs.YtopbmndjnjnmcaaGreatDoor
open Go.RowKit Lx
/- (U6a) -/
/-- The list that a group's reading has so far. -/
structure OutI (w W : World) (y : Value) (l : List Fr) (xs : List Value) : Prop where
  own : W.ownsRow w.heap.size 52 7 y l.length xs
  kids : KidsC W (fun b => w.heap.size ≤ b ∧ y.ownBlock ≠ some b) l xs
section
variable {w W W' : World} {y : Value} {l : List Fr} {xs : List Value} {r : Nat}
theorem OutI.bl (h : OutI w W y l xs) (hb : Below W.heap.size W W') : OutI w W' y l xs :=
  ⟨owns_keep h.own fun b hy => hb.block b (own_lt h.own hy), h.kids.keep fun b hs hlt => ⟨hb.block b hlt, hs⟩⟩
theorem OutI.nil (w W : World) : OutI w W (.slice none 0 0) [] [] := ⟨World.ownsRow_nil _ _ _ _, rfl⟩
theorem OutI.add {f : Fr} {kv : Value} {m g cap : Nat} (h : OutI w W y l xs) (hf : FrRead W (fun b => m ≤ b) kv f.kids) (hm : ∀ b, y.ownBlock = some b → b < m) (hmw : w.heap.size ≤ m)
    (hown : W'.ownsRow w.heap.size 52 7 (.slice (some ⟨g, 0, none⟩) (l.length + 1) cap) (l.length + 1) (xs ++ frC f.tok f.op kv)) (hgrow : W.grownBy W' y.ownBlock) (hat : y.ownBlock = some g ∨ g = W.heap.size) :
    OutI w W' (.slice (some ⟨g, 0, none⟩) (l.length + 1) cap) (l ++ [f]) (xs ++ frC f.tok f.op kv) := by
  refine ⟨by rw [List.length_append]; exact hown, KidsC.add (hf.keep fun b hb hlt => ⟨hgrow.block b hlt fun e => ?_, by omega, fun e => ?_⟩) (h.kids.keep fun b hs hlt => ⟨hgrow.block b hlt fun e => hs.2 e.symm, hs.1, fun e => ?_⟩)⟩
  · have := hm b e.symm; omega
  · have he : g = b := by simpa [Value.ownBlock] using e
    rcases hat with h1 | h1
    · have := hm g h1; omega
    · omega
  · have he : g = b := by simpa [Value.ownBlock] using e
    rcases hat with h1 | h1
    · exact hs.2 (he ▸ h1)
    · omega
theorem OutI.read (h : OutI w W y l xs) : FrRead W (fun b => w.heap.size ≤ b) y l :=
  kids_read h.own rfl h.kids (fun _ hs _ => hs.1) fun _ hb => own_base h.own hb
end
end Go.Proofs.YtopbmndjnjnmcaaGreatDoor
namespace Go.Proofs.YtopbmndjnjnmcaaGreatDoor
open Go.RowKit Lx
/- (U6b) -/
attribute [local go_sem] Oper.semAt_some
section
variable {ts : List Tok} {ws : List ByteArray} {B r : Nat} {vt vw : Value} {w0 : World}
end
end Go.Proofs.YtopbmndjnjnmcaaGreatDoor

/- Package fragment: RightWords and Read of the reference (skerryref02), and the law FragReads. -/
namespace Go.Proofs.YtopbmndjnjnmcaaGreatDoor
open Go.RowKit Lx
/- (U7) -/
attribute [local go_sem] Oper.semAt_some
end Go.Proofs.YtopbmndjnjnmcaaGreatDoor
namespace Go.Proofs.YtopbmndjnjnmcaaGreatDoor
open Go.RowKit Lx
/- (U8) -/
attribute [local go_sem] Oper.semAt_some
end Go.Proofs.YtopbmndjnjnmcaaGreatDoor
namespace Go.Proofs.YtopbmndjnjnmcaaGreatDoor
open Go.RowKit Lx
/- (U9) -/
attribute [local go_sem] Oper.semAt_some
/-- What is read, in three values. -/
def GotM (res : Rd) (v : Value) (i er : Int) (W : World) : Prop := match res with
  | .ok l => i = 0 ∧ er = 0 ∧ FrRead W (fun _ => True) v l
  | .bad er' i' => v = .slice none 0 0 ∧ i = i' ∧ er = (er' : Int)
theorem GotM.same {res : Rd} {v v' : Value} {i er i' er' : Int} {W W' : World} (h : GotM res v i er W) (h' : GotM res v' i' er' W') : i' = i ∧ er' = er := by
  cases res with
  | ok l => exact ⟨h'.1.trans h.1.symm, h'.2.1.trans h.2.1.symm⟩
  | bad e j => exact ⟨h'.2.1.trans h.2.1.symm, h'.2.2.trans h.2.2.symm⟩
theorem GotM.lists {res : Rd} {v v' : Value} {i er i' er' : Int} {W W' : World} (h : GotM res v i er W) (hb : Below W.heap.size W W') (h' : GotM res v' i' er' W') : ∃ l : List Fr, FrRead W' (fun _ => True) v l ∧ FrRead W' (fun _ => True) v' l := by
  cases res with
  | ok l => exact ⟨l, h.2.2.bl hb, h'.2.2⟩
  | bad e j => rw [h.1, h'.1]; exact ⟨[], FrRead.nil _ _ _ _, FrRead.nil _ _ _ _⟩
end Go.Proofs.YtopbmndjnjnmcaaGreatDoor

/- Package fragment: Alike of any two lists, size, depth, closing, flat and equal tokens of the reference (skerryref02); the tokens joined: for FragFlats. -/
namespace Go.Proofs.YtopbmndjnjnmcaaGreatDoor
open Go.RowKit Lx
/- (V1) -/
attribute [local go_sem] Oper.semAt_some
set_option maxRecDepth 100000 in
set_option maxHeartbeats 16000000 in
/-- **Alike** of any two lists -/
theorem alikeG_any (S S2 : Nat → Prop) (loose : Bool) : ∀ (n : Nat) (l l2 : List Fr) (v v2 : Value) (w : World), fsz l < n → FrRead w S v l → FrRead w S2 v2 l2 →
    Calls Tryz.prog 20 #[v, v2, .bool loose] w fun e W => e = .returned (.bool (alikeF loose l l2)) ∧ Below w.heap.size w W := by
  intro n
  induction n with
  | zero => intro l l2 v v2 w h; omega
  | succ n ih =>
    intro l l2 v v2 w hn hr hr2
    obtain ⟨va, vc, vg, vo, rfl, ⟨hm1, hm2⟩, ha, hat⟩ := hr
    obtain ⟨ua, uc, ug, uo, rfl, ⟨hu1, hu2⟩, hua, huat⟩ := hr2
    have HAT := Lib.hid hat
    have HA := Lib.hid ha
    have HUT := Lib.hid huat
    have HU := Lib.hid hua
    unfold maxLen at hm1 hu1
    clear hat ha huat hua
    obtain ⟨R, hR⟩ : ∃ R, alikeF loose l l2 = R := ⟨_, rfl⟩
    rw [hR]
    by_cases hll : l.length = l2.length
    case neg =>
      have hRf : R = false := by rw [← hR]; exact alikeF_len loose l l2 hll
      subst hRf
      have d0 : ((l.length : Int) != (l2.length : Int)) = true := by rw [bne_iff_ne]; omega
      go_enter Tryz.func20, Tryz.ntmps20
      go_wp2_with fail
      go_ret
      exact ⟨rfl, Below.refl _ _⟩
    case pos =>
    have HR := Lib.hid hR
    have HLL := Lib.hid hll
    rw [← hll] at hu1 hu2 ⊢
    clear hR hll
    have d0 : ((l.length : Int) != (l.length : Int)) = false := by simp
    go_enter Tryz.func20, Tryz.ntmps20
    go_wp2_with fail
    go_loopw [7] (fun x wr => ∃ (k : Nat), k ≤ l.length ∧ x = .int .i64 k ∧ Hid (alikeF loose (l.drop k) (l2.drop k) = R) ∧ Hid (Below w.heap.size w wr)) (fun x _ => l.length - (intOf x).toNat)
    case atStart => exact ⟨0, by omega, rfl, Lib.hid (by simpa using HR.out), Lib.hid (Below.refl _ _)⟩
    case round =>
      obtain ⟨k, hk, rfl, HRK, HB⟩ := hrel
      by_cases hlt : k < l.length
      · obtain ⟨f, hf⟩ : ∃ f, l[k]? = some f := ⟨_, List.getElem?_eq_getElem hlt⟩
        obtain ⟨f2, hf2⟩ : ∃ f2, l2[k]? = some f2 := ⟨_, List.getElem?_eq_getElem (by rw [← HLL.out]; exact hlt)⟩
        have hva : va = some ⟨vg, vo, none⟩ := HA.out (by intro h; rw [h] at hlt; simp at hlt)
        have hua : ua = some ⟨ug, uo, none⟩ := HU.out (by intro h; have h9 := HLL.out; rw [h, List.length_nil] at h9; omega)
        subst hva hua
        obtain ⟨kv, hs, hg, c0, c1, c2, c3, c4, c5, c6, hkr⟩ := HAT.out.get hf
        obtain ⟨kv2, hs2, hgu, d0', d1, d2, d3, d4, d5, d6, hkr2⟩ := HUT.out.get hf2
        have hfn : fsz f.kids < n := by have := fsz_kids hf; omega
        have hst : alikeF loose (l.drop k) (l2.drop k) = (alikeT loose f.tok f2.tok && ((f.op.toList == f2.op.toList) && (alikeF loose f.kids f2.kids && alikeF loose (l.drop (k + 1)) (l2.drop (k + 1))))) := alikeF_drop loose hf hf2
        have HST := Lib.hid (hst.symm.trans HRK.out)
        have HT : Hid (alikeT loose f.tok f2.tok = ((f.tok.kind == f2.tok.kind) && ((f.tok.num == f2.tok.num) && ((f.tok.text.toList == f2.tok.text.toList) && (loose || ((f.tok.at_ == f2.tok.at_) && (f.tok.mark == f2.tok.mark))))))) := Lib.hid rfl
        obtain ⟨bT, hbT⟩ : ∃ b, alikeT loose f.tok f2.tok = b := ⟨_, rfl⟩
        obtain ⟨bK, hbK⟩ : ∃ b, alikeF loose f.kids f2.kids = b := ⟨_, rfl⟩
        rw [hbT, hbK] at HST
        rw [hbT] at HT
        obtain ⟨tk, htk⟩ : ∃ t, f.tok.kind = t := ⟨_, rfl⟩
        obtain ⟨tn, htn⟩ : ∃ t, f.tok.num = t := ⟨_, rfl⟩
        obtain ⟨tt, htt⟩ : ∃ t, f.tok.text = t := ⟨_, rfl⟩
        obtain ⟨ta, hta⟩ : ∃ t, f.tok.at_ = t := ⟨_, rfl⟩
        obtain ⟨tm, htm⟩ : ∃ t, f.tok.mark = t := ⟨_, rfl⟩
        obtain ⟨fo, hfo⟩ : ∃ t, f.op = t := ⟨_, rfl⟩
        obtain ⟨sk, hsk⟩ : ∃ t, f2.tok.kind = t := ⟨_, rfl⟩
        obtain ⟨sn, hsn⟩ : ∃ t, f2.tok.num = t := ⟨_, rfl⟩
        obtain ⟨st, hst2⟩ : ∃ t, f2.tok.text = t := ⟨_, rfl⟩
        obtain ⟨sa, hsa⟩ : ∃ t, f2.tok.at_ = t := ⟨_, rfl⟩
        obtain ⟨sm, hsm⟩ : ∃ t, f2.tok.mark = t := ⟨_, rfl⟩
        obtain ⟨go, hgo⟩ : ∃ t, f2.op = t := ⟨_, rfl⟩
        rw [htk] at c0
        rw [htn] at c1
        rw [htt] at c2
        rw [hta] at c3
        rw [htm] at c4
        rw [hfo] at c5
        rw [hsk] at d0'
        rw [hsn] at d1
        rw [hst2] at d2
        rw [hsa] at d3
        rw [hsm] at d4
        rw [hgo] at d5
        rw [htk, htn, htt, hta, htm, hsk, hsn, hst2, hsa, hsm] at HT
        rw [hfo, hgo] at HST
        have m0 := (HB.out.cell (p := ⟨vg, vo + k * 7, none⟩) hg).trans c0
        have m1 := (HB.out.cell (p := ⟨vg, vo + k * 7 + 1, none⟩) hg).trans c1
        have m2 := (HB.out.cell (p := ⟨vg, vo + k * 7 + 2, none⟩) hg).trans c2
        have m3 := (HB.out.cell (p := ⟨vg, vo + k * 7 + 3, none⟩) hg).trans c3
        have m4 := (HB.out.cell (p := ⟨vg, vo + k * 7 + 4, none⟩) hg).trans c4
        have h1 := (Below.refl wr.heap.size wr).alloc (Nat.le_refl _) (.cells #[.int .i64 tk, .int .i64 tn, .string tt, .int .i64 ta, .int .i64 tm] 50)
        have b1 := HB.out.trans (h1.mono HB.out.size)
        have n0 := (b1.cell (p := ⟨ug, uo + k * 7, none⟩) hgu).trans d0'
        have n1 := (b1.cell (p := ⟨ug, uo + k * 7 + 1, none⟩) hgu).trans d1
        have n2 := (b1.cell (p := ⟨ug, uo + k * 7 + 2, none⟩) hgu).trans d2
        have n3 := (b1.cell (p := ⟨ug, uo + k * 7 + 3, none⟩) hgu).trans d3
        have n4 := (b1.cell (p := ⟨ug, uo + k * 7 + 4, none⟩) hgu).trans d4
        have h2 := (Below.refl _ (wr.alloc (.cells #[.int .i64 tk, .int .i64 tn, .string tt, .int .i64 ta, .int .i64 tm] 50))).alloc (Nat.le_refl _) (.cells #[.int .i64 sk, .int .i64 sn, .string st, .int .i64 sa, .int .i64 sm] 50)
        have b2 := b1.trans (h2.mono b1.size)
        have q5 := (b2.cell (p := ⟨vg, vo + k * 7 + 5, none⟩) hg).trans c5
        have q6 := (b2.cell (p := ⟨vg, vo + k * 7 + 6, none⟩) hg).trans c6
        have r5 := (b2.cell (p := ⟨ug, uo + k * 7 + 5, none⟩) hgu).trans d5
        have r6 := (b2.cell (p := ⟨ug, uo + k * 7 + 6, none⟩) hgu).trans d6
        have k1 : (k : Int) < (l.length : Int) := by omega
        have HIH := Lib.hid (fun (W : World) (hb : Below w.heap.size w W) => ih f.kids f2.kids kv kv2 W hfn (hkr.bl hb) (hkr2.bl hb))
        rw [hbK] at HIH
        have B2 := Lib.hid b2
        clear c0 c1 c2 c3 c4 c5 c6 d0' d1 d2 d3 d4 d5 d6 hs hs2 hkr hkr2 h1 h2 b1 b2 hf hf2 htk htn htt hta htm hfo hfn hst hbT hbK hsk hsn hst2 hsa hsm hgo HRK
        go_upto_region 8 with fail
        obtain ⟨wx, hwx⟩ : ∃ wx, ((wr.alloc (.cells #[.int .i64 tk, .int .i64 tn, .string tt, .int .i64 ta, .int .i64 tm] 50)).alloc (.cells #[.int .i64 sk, .int .i64 sn, .string st, .int .i64 sa, .int .i64 sm] 50)) = wx := ⟨_, rfl⟩
        have w0 : wx.heap[wr.heap.size]? = some (.cells #[.int .i64 tk, .int .i64 tn, .string tt, .int .i64 ta, .int .i64 tm] 50 (0, 0)) := by rw [← hwx]; exact alloc2_old wr _ _
        have w1 : wx.heap[wr.heap.size + 1]? = some (.cells #[.int .i64 sk, .int .i64 sn, .string st, .int .i64 sa, .int .i64 sm] 50 (0, 0)) := by rw [← hwx]; exact alloc2_new wr _ _
        obtain ⟨x0, x1, x2, x3, x4⟩ := tok_cells (t := ⟨tk, tn, tt, ta, tm⟩) w0
        obtain ⟨y0, y1, y2, y3, y4⟩ := tok_cells (t := ⟨sk, sn, st, sa, sm⟩) w1
        simp only at x0 x1 x2 x3 x4 y0 y1 y2 y3 y4
        rw [hwx] at q5 q6 r5 r6 B2
        rw [hwx]
        clear hwx w0 w1 m0 m1 m2 m3 m4 n0 n1 n2 n3 n4
        go_cut [10] from 32 to 67 (fun v wy => v = .bool bT ∧ wy = wx)
        case first =>
          cases e1 : (tk == sk)
          · obtain rfl : bT = false := by rw [HT.out, e1]; rfl
            go_wp2_with fail
            go_meet
            exact ⟨rfl, rfl⟩
          · cases e2 : (tn == sn)
            · obtain rfl : bT = false := by rw [HT.out, e1, e2]; rfl
              go_wp2_with fail
              go_meet
              exact ⟨rfl, rfl⟩
            · cases e3 : (tt.toList == st.toList)
              · obtain rfl : bT = false := by rw [HT.out, e1, e2, e3]; rfl
                go_wp2_with fail
                go_meet
                exact ⟨rfl, rfl⟩
              · cases loose
                · cases e4 : (ta == sa)
                  · obtain rfl : bT = false := by rw [HT.out, e1, e2, e3, e4]; rfl
                    go_wp2_with fail
                    go_meet
                    exact ⟨rfl, rfl⟩
                  · obtain rfl : bT = (tm == sm) := by rw [HT.out, e1, e2, e3, e4]; rfl
                    go_wp2_with fail
                    go_meet
                    exact ⟨rfl, rfl⟩
                · obtain rfl : bT = true := by rw [HT.out, e1, e2, e3]; rfl
                  go_wp2_with fail
                  go_meet
                  exact ⟨rfl, rfl⟩
        case rest =>
          obtain ⟨rfl, rfl⟩ := hcut
          cases bT
          · obtain rfl : R = false := by rw [← HST.out]; rfl
            go_wp2_with fail
            go_quiet (fail)
            go_wp2_with fail
            go_ret
            exact ⟨rfl, below_drewN B2.out _⟩
          · cases eo : (fo.toList == go.toList)
            · obtain rfl : R = false := by rw [← HST.out, eo]; rfl
              have en : (fo.toList != go.toList) = true := by rw [bne, eo]; rfl
              go_wp2_with fail
              go_quiet (fail)
              go_wp2_with fail
              go_ret
              exact ⟨rfl, below_drewN B2.out _⟩
            · have en : (fo.toList != go.toList) = false := by rw [bne, eo]; rfl
              have HRN : Hid ((bK && alikeF loose (l.drop (k + 1)) (l2.drop (k + 1))) = R) := Lib.hid (by rw [← HST.out, eo]; rfl)
              have BD := Lib.hid B2.out.drew
              have z5 : wc.drew.cell? ⟨vg, vo + k * 7 + 5, none⟩ = some (.string fo) := q5
              have z6 : wc.drew.cell? ⟨vg, vo + k * 7 + 6, none⟩ = some kv := q6
              have p5 : wc.drew.cell? ⟨ug, uo + k * 7 + 5, none⟩ = some (.string go) := r5
              have p6 : wc.drew.cell? ⟨ug, uo + k * 7 + 6, none⟩ = some kv2 := r6
              clear HST HT x0 x1 x2 x3 x4 y0 y1 y2 y3 y4
              go_upto_region 9 with fail
              go_region_held3 (fun w' => w'.cell? ⟨vg, vo + k * 7 + 5, none⟩ = some (.string fo) ∧ w'.cell? ⟨vg, vo + k * 7 + 6, none⟩ = some kv ∧ w'.cell? ⟨ug, uo + k * 7 + 5, none⟩ = some (.string go) ∧ w'.cell? ⟨ug, uo + k * 7 + 6, none⟩ = some kv2)
                (first | exact ⟨z5, z6, p5, p6⟩ | exact ⟨q5, q6, r5, r6⟩ | exact ⟨u5, u6, s5, s6⟩ | go_keep)
                (first
                  | (go_at_call 20; refine (HIH.out _ BD.out).mono ?_; rintro e W5 ⟨rfl, hb5⟩; have B5 := Lib.hid (BD.out.trans (hb5.mono BD.out.size)); have u5 := (hb5.cell (p := ⟨vg, vo + k * 7 + 5, none⟩) (block_lt z5)).trans z5; have u6 := (hb5.cell (p := ⟨vg, vo + k * 7 + 6, none⟩) (block_lt z6)).trans z6; have s5 := (hb5.cell (p := ⟨ug, uo + k * 7 + 5, none⟩) (block_lt p5)).trans p5; have s6 := (hb5.cell (p := ⟨ug, uo + k * 7 + 6, none⟩) (block_lt p6)).trans p6))
              all_goals
                cases bK
                · obtain rfl : R = false := by rw [← HRN.out]; rfl
                  go_wp2_with fail
                  go_ret
                  exact ⟨rfl, B5.out⟩
                · have HRR : Hid (alikeF loose (l.drop (k + 1)) (l2.drop (k + 1)) = R) := HRN
                  go_wp2_with fail
                  go_roundw
                  case rel => exact ⟨k + 1, by omega, rfl, HRR, B5⟩
                  case measure => simp [intOf]; omega
      · obtain rfl : k = l.length := by omega
        have hRt : R = true := by
          rw [← HRK.out, List.drop_length, HLL.out, List.drop_length, alikeF]
        subst hRt
        go_wp2_with fail
        go_ret
        exact ⟨rfl, HB.out⟩
end Go.Proofs.YtopbmndjnjnmcaaGreatDoor
namespace Go.Proofs.YtopbmndjnjnmcaaGreatDoor
open Go.RowKit Lx
/- (V2) -/
attribute [local go_sem] Oper.semAt_some
end Go.Proofs.YtopbmndjnjnmcaaGreatDoor
namespace Go.Proofs.YtopbmndjnjnmcaaGreatDoor
open Go.RowKit Lx
/- (V3) -/
attribute [local go_sem] Oper.semAt_some
def rdp (m : Nat) (l : List Fr) : Nat := min (m + 1) (dep l)
theorem dep_step {l : List Fr} {k : Nat} {f : Fr} (hf : l[k]? = some f) : dep (l.take (k + 1)) = max (dep (l.take k)) (if f.op.toList = [] then 0 else 1 + dep f.kids) := by
  rw [List.take_add_one, hf, Option.toList_some, dep_app, dep_one]
set_option maxRecDepth 100000 in
set_option maxHeartbeats 4000000 in
/-- **depth** of the reference -/
theorem rdepth_any (S : Nat → Prop) : ∀ (n : Nat) (l : List Fr) (m : Nat) (v : Value) (w : World), fsz l < n → m ≤ 100 → FrRead w S v l →
    Calls Tryz.prog 55 #[v, .int .i64 m] w fun e W => e = .returned (.int .i64 (rdp m l : Nat)) ∧ Below w.heap.size w W := by
  intro n
  induction n with
  | zero => intro l m v w h; omega
  | succ n ih =>
    intro l m v w hn hm hr
    obtain ⟨va, vc, vg, vo, rfl, ⟨hm1, hm2⟩, ha, hat⟩ := hr
    have HAT := Lib.hid hat
    have HA := Lib.hid ha
    have IH := Lib.hid ih
    unfold maxLen at hm1
    clear hat ha ih
    go_enter Tryz.func55, Tryz.ntmps55
    go_wp2_with fail
    go_loopw [5, 6] (fun x y wr => ∃ (k N : Nat), k ≤ l.length ∧ y = .int .i64 k ∧ x = .int .i64 N ∧ N ≤ m + 1 ∧ Hid (rdp m (l.take k) = N) ∧ Hid (Below w.heap.size w wr)) (fun _ y _ => l.length - (intOf y).toNat)
    case atStart => exact ⟨0, 0, by omega, rfl, rfl, by omega, Lib.hid (by simp [rdp, dep]), Lib.hid (Below.refl _ _)⟩
    case round =>
      obtain ⟨k, N, hk, rfl, rfl, hN, HN, HB⟩ := hrel
      by_cases hlt : k < l.length
      · obtain ⟨f, hf⟩ : ∃ f, l[k]? = some f := ⟨_, List.getElem?_eq_getElem hlt⟩
        have hva : va = some ⟨vg, vo, none⟩ := HA.out (by intro h; rw [h] at hlt; simp at hlt)
        subst hva
        obtain ⟨kv, hs, hg, c0, c1, c2, c3, c4, c5, c6, hkr⟩ := HAT.out.get hf
        have m5 := (HB.out.cell (p := ⟨vg, vo + k * 7 + 5, none⟩) hg).trans c5
        have m6 := (HB.out.cell (p := ⟨vg, vo + k * 7 + 6, none⟩) hg).trans c6
        have hfn : fsz f.kids < n := by have := fsz_kids hf; omega
        have HF := Lib.hid hf
        have HKR := Lib.hid (hkr.bl HB.out)
        have k1 : (k : Int) < (l.length : Int) := by omega
        clear c0 c1 c2 c3 c4 c5 c6 hkr hf hs hg
        cases e1 : (f.op.toList == [])
        · have ho : f.op.toList ≠ [] := by intro h; rw [h] at e1; simp at e1
          have e2 : (f.op.toList != []) = true := by rw [bne, e1]; rfl
          by_cases hd0 : 0 < m
          · have k3 : (0 : Int) < (m : Int) := by omega
            have k4 : ((m : Int) == 0) = false := by rw [beq_eq_false_iff_ne]; omega
            have hw1 : IntKind.i64.wrap ((m : Int) - 1) = ((m - 1 : Nat) : Int) := by rw [IntWalk.i64_in _ (by omega)]; omega
            have HIH := Lib.hid (IH.out f.kids (m - 1) kv wr hfn (by omega) HKR.out)
            obtain ⟨M, hM⟩ : ∃ M, rdp (m - 1) f.kids = M := ⟨_, rfl⟩
            have hMle : M ≤ m := by rw [← hM]; unfold rdp; omega
            have HNX : Hid (rdp m (l.take (k + 1)) = max N (1 + M)) := Lib.hid (by have h9 := HN.out; unfold rdp at h9 hM ⊢; rw [dep_step HF.out, if_neg ho]; omega)
            rw [hM] at HIH
            clear hM
            go_wp2_with fail
            go_at_call 55
            refine HIH.out.mono ?_
            rintro e W2 ⟨rfl, hb2⟩
            have HB2 := Lib.hid (HB.out.trans (hb2.mono HB.out.size))
            have m5' := (hb2.cell (p := ⟨vg, vo + k * 7 + 5, none⟩) (block_lt m5)).trans m5
            clear hb2
            have hw3 : IntKind.i64.wrap (1 + (M : Int)) = 1 + (M : Int) := by rw [IntWalk.i64_in _ (by omega)]
            go_wp2_with fail
            go_roundw
            case rel => exact ⟨k + 1, max N (1 + M), by omega, by go_num, by go_num, by omega, HNX, HB2⟩
            case measure => simp [intOf]; omega
          · have hd1 : m = 0 := by omega
            subst hd1
            have HNX : Hid (rdp 0 (l.take (k + 1)) = max N 1) := Lib.hid (by have h9 := HN.out; unfold rdp at h9 ⊢; rw [dep_step HF.out, if_neg ho]; omega)
            go_wp2_with fail
            go_roundw
            case rel => exact ⟨k + 1, max N 1, by omega, by go_num, by go_num, by omega, HNX, HB⟩
            case measure => simp [intOf]; omega
        · have ho : f.op.toList = [] := by simpa using e1
          have e2 : (f.op.toList != []) = false := by rw [bne, e1]; rfl
          have HNX : Hid (rdp m (l.take (k + 1)) = N) := Lib.hid (by have h9 := HN.out; unfold rdp at h9 ⊢; rw [dep_step HF.out, if_pos ho]; omega)
          go_wp2_with fail
          go_roundw
          case rel => exact ⟨k + 1, N, by omega, by go_num, rfl, by omega, HNX, HB⟩
          case measure => simp [intOf]; omega
      · obtain rfl : k = l.length := by omega
        have hfin : rdp m l = N := by rw [← HN.out, List.take_length]
        have HFIN := Lib.hid hfin
        clear hfin
        go_wp2_with fail
        go_ret
        exact ⟨by rw [HFIN.out]; rfl, HB.out⟩
set_option maxRecDepth 100000 in
/-- **Depth** of the reference -/
theorem refDepth_any (S : Nat → Prop) (l : List Fr) (v : Value) (w : World) (hr : FrRead w S v l) :
    Calls Tryz.prog 24 #[v] w fun e W => e = .returned (.int .i64 (depthP l : Nat)) ∧ Below w.heap.size w W := by
  have HR := Lib.hid (rdepth_any S (fsz l + 1) l 100 v w (Nat.lt_succ_self _) (by omega) hr)
  have e1 : rdp 100 l = depthP l := by rw [depthP_dep]; rfl
  rw [e1] at HR
  go_enter Tryz.func24, Tryz.ntmps24
  go_wp2_with fail
  go_at_call 55
  refine HR.out.mono ?_
  rintro e W2 ⟨rfl, hb2⟩
  go_wp2_with fail
  go_ret
  exact ⟨rfl, hb2⟩
end Go.Proofs.YtopbmndjnjnmcaaGreatDoor
namespace Go.Proofs.YtopbmndjnjnmcaaGreatDoor
open Go.RowKit Lx
/- (V4) -/
attribute [local go_sem] Oper.semAt_some
end Go.Proofs.YtopbmndjnjnmcaaGreatDoor
namespace Go.Proofs.YtopbmndjnjnmcaaGreatDoor
open Go.RowKit Lx
/- (V5) -/
attribute [local go_sem] Oper.semAt_some
end Go.Proofs.YtopbmndjnjnmcaaGreatDoor
namespace Go.Proofs.YtopbmndjnjnmcaaGreatDoor
open Go.RowKit Lx
/- (V6) -/
attribute [local go_sem] Oper.semAt_some
end Go.Proofs.YtopbmndjnjnmcaaGreatDoor
namespace Go.Proofs.YtopbmndjnjnmcaaGreatDoor
open Go.RowKit Lx
/- (N18) -/
attribute [local go_sem] Oper.semAt_some

def texts (ts : List Tok) : List Bs := ts.map fun t => t.text.data.toList
/-- What Join of the program holds. -/
structure JoI (w : World) (ts : List Tok) (k : Nat) (v : Value) (W : World) : Prop where
  own : W.ownsRow w.heap.size 9 1 v k ((ts.take k).map fun t => .string t.text)
  bel : Below w.heap.size w W
theorem JoI.bl {w W W' : World} {ts : List Tok} {k : Nat} {v : Value} (h : JoI w ts k v W) (hb : Below W.heap.size W W') : JoI w ts k v W' :=
  ⟨owns_bl' h.own hb, h.bel.trans (hb.mono h.bel.size)⟩
/- (N19) -/
attribute [local go_sem] Oper.semAt_some

def bCells (l : Bs) : List Value := l.map fun b => Value.int .u8 (b.toNat : Int)
/-- The tokens so far, joined. -/
def jl (ts : List Tok) (k : Nat) : Bs := Lib.join ((texts ts).take k) [32]
/-- What Join of the reference holds. -/
structure RJ (w : World) (ts : List Tok) (k : Nat) (v : Value) (W : World) : Prop where
  own : W.ownsRow w.heap.size 5 1 v (jl ts k).length (bCells (jl ts k))
  bel : Below w.heap.size w W
theorem RJ.bl {w W W' : World} {ts : List Tok} {k : Nat} {v : Value} (h : RJ w ts k v W) (hb : Below W.heap.size W W') : RJ w ts k v W' :=
  ⟨owns_bl' h.own hb, h.bel.trans (hb.mono h.bel.size)⟩
end Go.Proofs.YtopbmndjnjnmcaaGreatDoor
