/- Package lex: Scan. -/
import Derived.Test.YtdfkkeeohbgmbaaGreatDoorA19
import Derived.Deep.RegionHeld3
import Derived.Deep.AppendLies
import Derived.Deep.DrawnRows
namespace Go.Proofs.YtdfkkeeohbgmbaaGreatDoor
open Go.RowKit Lx

attribute [local go_sem] Oper.semAt_some
attribute [local go_sem ↓] Go.wp_at_zero Go.wp_at_succ

theorem info39 : (Tryz.prog.info? 51).map (fun i => (i.zero, i.size, i.bytes)) = some (some (.agg #[.int .i64 0, .int .i64 0, .string ⟨#[]⟩, .int .i64 0, .int .i64 0]), 5, 48) := by kernel_rfl

/-- The text of a piece. -/
def pcText (s : ByteArray) (p : Pc) : ByteArray := s.extract p.at_ (p.at_ + p.len)
def tkCells (s : ByteArray) (p : Pc) : List Value := [.int .i64 (p.kind : Int), .int .i64 (qValue p.kind ((s.data.toList.drop p.at_).take p.len)), .string (pcText s p), .int .i64 (p.at_ : Int), .int .i64 0]
def tksCells (s : ByteArray) : List Pc → List Value
  | [] => []
  | p :: r => tkCells s p ++ tksCells s r
theorem tksCells_app (s : ByteArray) (a b : List Pc) : tksCells s (a ++ b) = tksCells s a ++ tksCells s b := by
  induction a with
  | nil => rfl
  | cons p r ih => simp [tksCells, ih]
theorem tksCells_len (s : ByteArray) (a : List Pc) : (tksCells s a).length = a.length * 5 := by
  induction a with
  | nil => rfl
  | cons p r ih => simp [tksCells, tkCells, ih]; omega

def isTok (p : Pc) : Bool := decide (p.kind < 7)
/-- The pieces that Pieces returns. -/
def qGood (l : Bs) : List Pc := if (qPieces l).2 = none then (qPieces l).1 else []
/-- The pieces that are tokens. -/
def qScan (l : Bs) : List Pc := (qGood l).filter isTok
def qErr (l : Bs) : Nat := ((qPieces l).2.map Prod.fst).getD 0
def qErrAt (l : Bs) : Nat := ((qPieces l).2.map Prod.snd).getD 0

theorem qGood_follow (l : Bs) : Follow l.length 0 (qGood l) := by
  unfold qGood; split
  · exact (qPieces_follow l).1
  · trivial
theorem qGood_length (l : Bs) : (qGood l).length ≤ 20000 := by
  unfold qGood; split
  · exact qPieces_length l
  · simp
theorem qGood_small (l : Bs) (k : Nat) (p : Pc) (h : (qGood l)[k]? = some p) : l.length ≤ 20000 := by
  unfold qGood at h; split at h
  · rename_i h1; exact qPieces_small l h1
  · simp at h

/-- **Pieces**, by what it returns. -/
theorem pieces_good (s : ByteArray) (hm : s.size ≤ maxLen) (w : World) (he : Env w) :
    Calls Tryz.prog 8 #[.string s] w fun e W => ∃ v, e = .returned (.tuple #[v, .int .i64 (qErrAt s.data.toList : Nat), .int .i64 (qErr s.data.toList : Nat)]) ∧
      W.ownsRow w.heap.size 59 3 v (qGood s.data.toList).length (pcsCells (qGood s.data.toList)) ∧ (v = .slice none 0 0 ↔ qGood s.data.toList = []) ∧ Below w.heap.size w W := by
  refine (pieces_any s hm w he).mono ?_
  rintro e W ⟨⟨v, rfl, h1, h2⟩, hb⟩
  refine ⟨v, rfl, ?_⟩
  by_cases h : (qPieces s.data.toList).2 = none
  · have hg : qGood s.data.toList = (qPieces s.data.toList).1 := if_pos h
    rw [hg]
    exact ⟨(h1 h).1, (h1 h).2, hb⟩
  · have hg : qGood s.data.toList = [] := if_neg h
    rw [hg, h2 h]
    exact ⟨World.ownsRow_nil _ _ _ _, by simp, hb⟩

theorem filter_take_succ (ps : List Pc) (k : Nat) (p : Pc) (h : ps[k]? = some p) : (ps.take (k + 1)).filter isTok = (ps.take k).filter isTok ++ (if isTok p = true then [p] else []) := by
  rw [List.take_add_one, h, List.filter_append]
  congr 1
  cases h' : isTok p <;> simp [h']

theorem Env.any {w w' : World} (h : Env w) {B : Nat} (hB : B = w.heap.size) (hb : Below B w w') : Env w' := by subst hB; exact h.below hb

/-- What Scan holds between two rounds. -/
def SI (s : ByteArray) (B : Nat) (w : World) (pv : Value) (ps : List Pc) (k : Nat) (v : Value) (W : World) : Prop :=
  W.ownsRow B 59 3 pv ps.length (pcsCells ps) ∧ W.ownsRow B 51 5 v ((ps.take k).filter isTok).length (tksCells s ((ps.take k).filter isTok)) ∧ (v = .slice none 0 0 ↔ (ps.take k).filter isTok = []) ∧ Env W ∧ Below B w W

theorem rows_apart {W : World} {b1 b2 e1 e2 s1 s2 n1 n2 : Nat} {v1 v2 : Value} {x1 x2 : List Value} (h1 : W.ownsRow b1 e1 s1 v1 n1 x1) (h2 : W.ownsRow b2 e2 s2 v2 n2 x2) (hne : e1 ≠ e2) : v1.ownBlock = none ∨ v1.ownBlock ≠ v2.ownBlock := by
  rcases h2.2 with ⟨rfl, _⟩ | ⟨g, cap, cur, rfl, _, hg, _⟩
  · cases v1.ownBlock with
    | none => exact .inl rfl
    | some g => exact .inr (by simp [Value.ownBlock])
  · rcases row_cells h1 hg (fun cs fr e => by cases e; exact hne rfl) with h | h
    · exact .inl h
    · exact .inr (by simpa [Value.ownBlock] using h)

theorem Below.heap_alloc_cell (w : World) (o : Obj) (a : Addr) (h : a.block < w.heap.size) : (w.alloc o).cell? a = w.cell? a := ((Below.refl w.heap.size w).alloc (Nat.le_refl _) o).cell h

theorem held_keep {N : Nat} {w9 w10 : World} {o : Obj} {row : Option Nat} {a : Addr} {v : Value} (hk : w9.cell? a = some v) (ha : a.block = N) (hs : N < w9.heap.size) (hg : (w9.alloc o).grownBy w10 row) (hne : ∀ j, row = some j → j < N) : w10.cell? a = some v :=
  (hg.cell_far a (by rw [World.size_alloc]; omega) (fun e => by have := hne _ e.symm; omega)).trans ((Below.heap_alloc_cell w9 _ _ (by omega)).trans hk)
theorem lt_drew_alloc (w : World) (o : Obj) : w.heap.size < (w.alloc o).drew.heap.size := by
  show w.heap.size < (w.alloc o).heap.size; rw [World.size_alloc]; omega
theorem size_drew_alloc {w w9 : World} {o : Obj} (h : Below (w.alloc o).drew.heap.size (w.alloc o).drew w9) : w.heap.size < w9.heap.size := by
  have := h.size
  have h2 : (w.alloc o).drew.heap.size = w.heap.size + 1 := by show (w.alloc o).heap.size = _; rw [World.size_alloc]
  omega

theorem from_drew_alloc {w w9 : World} {o : Obj} (h : Below (w.alloc o).drew.heap.size (w.alloc o).drew w9) : Below w.heap.size w w9 :=
  (((Below.refl w.heap.size w).alloc (Nat.le_refl _) o).drew).trans (h.mono (by show w.heap.size ≤ (w.alloc o).heap.size; rw [World.size_alloc]; omega))

theorem owns_bl' {W W' : World} {base e size k : Nat} {v : Value} {xs : List Value} (h : W.ownsRow base e size v k xs) (hb : Below W.heap.size W W') : W'.ownsRow base e size v k xs := by
  refine h.kept (grown_bl hb none) ?_
  cases v.ownBlock with
  | none => exact .inl rfl
  | some g => exact .inr (by simp)

theorem SI.skip {s : ByteArray} {B : Nat} {w : World} {pv : Value} {ps : List Pc} {k : Nat} {v : Value} {W W' : World} {p : Pc} (h : SI s B w pv ps k v W) (hB : B ≤ W.heap.size) (hp : ps[k]? = some p) (h7 : isTok p = false) (hb : Below W.heap.size W W') : SI s B w pv ps (k + 1) v W' := by
  obtain ⟨h1, h2, h3, h4, h5⟩ := h
  unfold SI
  rw [filter_take_succ ps k p hp, if_neg (by simp [h7]), List.append_nil]
  exact ⟨owns_bl' h1 hb, owns_bl' h2 hb, h3, h4.below hb, h5.trans (hb.mono hB)⟩

theorem SI.more {s : ByteArray} {B : Nat} {w : World} {pv : Value} {ps : List Pc} {k : Nat} {v : Value} {W W' W'' : World} {p : Pc} (h : SI s B w pv ps k v W) (h6 : 6 ≤ B) (hB : B ≤ W.heap.size) (hp : ps[k]? = some p) (h7 : isTok p = true) (hb : Below W.heap.size W W') {g cap : Nat}
    (hown : W''.ownsRow B 51 5 (.slice (some ⟨g, 0, none⟩) (((ps.take k).filter isTok).length + 1) cap) (((ps.take k).filter isTok).length + 1) (tksCells s ((ps.take k).filter isTok) ++ tkCells s p)) (hg : W'.grownBy W'' v.ownBlock) :
    SI s B w pv ps (k + 1) (.slice (some ⟨g, 0, none⟩) (((ps.take k).filter isTok).length + 1) cap) W'' := by
  obtain ⟨h1, h2, h3, h4, h5⟩ := h
  have hlt := h2.lt
  unfold SI
  rw [filter_take_succ ps k p hp, if_pos h7, List.length_append, tksCells_app]
  have hb2 : Below B W W'' := (hb.mono hB).grown hg (by have := hb.size; omega) (fun j e => (hlt j e).1)
  refine ⟨(owns_bl' h1 hb).kept hg (rows_apart (owns_bl' h1 hb) (owns_bl' h2 hb) (by decide)), by simpa [tksCells] using hown, by simp, h4.low (hb2.mono h6), h5.trans hb2⟩

set_option maxRecDepth 100000 in
set_option maxHeartbeats 4000000 in
/-- **Scan** -/
theorem scan_any (s : ByteArray) (hm : s.size ≤ maxLen) (w : World) (he : Env w) :
    Calls Tryz.prog 10 #[.string s] w fun e W => ∃ v, e = .returned (.tuple #[v, .int .i64 (qErrAt s.data.toList : Nat), .int .i64 (qErr s.data.toList : Nat)]) ∧
      W.ownsRow w.heap.size 51 5 v (qScan s.data.toList).length (tksCells s (qScan s.data.toList)) ∧ (v = .slice none 0 0 ↔ qScan s.data.toList = []) ∧ Below w.heap.size w W := by
  have HE := Lib.hid he
  clear he
  obtain ⟨i0, hi0, hz0, hz1, hz2⟩ := info_parts info39
  go_enter Tryz.func10, Tryz.ntmps10
  go_wp2_with fail
  refine (pieces_good s hm _ HE.out).mono ?_
  rintro e w1 ⟨pv, rfl, hown, hnil, hb⟩
  have hlen := qGood_length s.data.toList
  have hSI : SI s w.heap.size w pv (qGood s.data.toList) 0 (.slice none 0 0) w1 := ⟨hown, World.ownsRow_nil _ _ _ _, by simp, HE.out.below hb, hb⟩
  have HS := Lib.hid hSI
  have hform : ∃ a n c, pv = .slice a n c ∧ n = (qGood s.data.toList).length := by
    rcases hown.2 with ⟨rfl, h0⟩ | ⟨g, cap, cur, rfl, _⟩
    · exact ⟨_, _, _, rfl, h0.symm⟩
    · exact ⟨_, _, _, rfl, rfl⟩
  obtain ⟨pa, pn, pc, rfl, rfl⟩ := hform
  clear hown hnil hb hSI
  go_wp2_with fail
  go_loopw [8, 20] (fun o x wr => ∃ k : Nat, k ≤ (qGood s.data.toList).length ∧ x = .int .i64 k ∧ Hid (SI s w.heap.size w (.slice pa (qGood s.data.toList).length pc) (qGood s.data.toList) k o wr)) (fun _ x _ => (qGood s.data.toList).length - (intOf x).toNat)
  case atStart => exact ⟨0, by omega, rfl, HS⟩
  case round =>
    clear HS
    obtain ⟨k, hk, rfl, HS⟩ := hrel
    by_cases hlt : k < (qGood s.data.toList).length
    · obtain ⟨p, hp⟩ : ∃ p, (qGood s.data.toList)[k]? = some p := ⟨_, List.getElem?_eq_getElem hlt⟩
      obtain ⟨hown, htok, hnil, henv, hb⟩ := HS.out
      have hsm := qGood_small _ k p hp
      obtain ⟨hp1, hp2, hp3, hp4⟩ := (qGood_follow s.data.toList).get hp
      simp only [Array.length_toList, ByteArray.size_data] at hp2 hsm
      obtain ⟨g, hpa⟩ : ∃ g, pa = some ⟨g, 0, none⟩ := by
        rcases hown.2 with ⟨h, h0⟩ | ⟨g, cap, cur, h, _⟩
        · omega
        · cases h; exact ⟨g, rfl⟩
      subst hpa
      obtain ⟨c0, c1, c2⟩ := owns_pc hown hp
      have HP := Lib.hid hp
      clear hp hown hnil htok henv hb
      have hk0 : (0 : Int) ≤ (k : Int) := by omega
      have hk1 : (k : Int) < ((qGood s.data.toList).length : Int) := by omega
      cases h7 : (decide ((p.kind : Int) < 7))
      · have h7' : isTok p = false := by simp [isTok] at h7 ⊢; omega
        go_wp2_with fail
        go_roundw
        case rel => exact ⟨k + 1, by omega, rfl, Lib.hid (HS.out.skip HS.out.2.2.2.2.size HP.out h7' ((Below.refl _ wr).alloc (Nat.le_refl _) _))⟩
        case measure => simp [intOf]; omega
      · have h7' : isTok p = true := by simp [isTok] at h7 ⊢; omega
        have hcnt : ((((qGood s.data.toList).take k).filter isTok).length) ≤ 20000 := Nat.le_trans (List.length_filter_le _ _) (by rw [List.length_take]; omega)
        go_wp2_with fail
        have hbw := ((Below.refl wr.heap.size wr).alloc (Nat.le_refl _) (.cells #[.int .i64 p.kind, .int .i64 p.at_, .int .i64 p.len] 59)).drew
        obtain ⟨cw0, cw1, _⟩ := cells3 (w := (wr.alloc (.cells #[.int .i64 p.kind, .int .i64 p.at_, .int .i64 p.len] 59)).drew) (heap_alloc_new wr _)
        have hvs : p.kind = 2 → (s.extract p.at_ (p.at_ + p.len)).size ≤ 20000 := fun _ => by rw [ByteArray.size_extract]; omega
        have HEw := Lib.hid (HS.out.2.2.2.1.below hbw)
        go_region_held3 (fun w' => w'.cell? ⟨wr.heap.size, 0, none⟩ = some (.int .i64 p.kind) ∧ w'.cell? ⟨wr.heap.size, 1, none⟩ = some (.int .i64 p.at_)) (first | go_keep)
          (first
            | (go_at_call 41; refine (value_any p.kind (s.extract p.at_ (p.at_ + p.len)) hvs _ HEw.out).mono ?_; rintro e w9 ⟨rfl, hb9⟩; have k0 : w9.cell? ⟨wr.heap.size, 0, none⟩ = _ := (hb9.cell (p := ⟨wr.heap.size, 0, none⟩) (lt_drew_alloc wr _)).trans cw0; have k1 : w9.cell? ⟨wr.heap.size, 1, none⟩ = _ := (hb9.cell (p := ⟨wr.heap.size, 1, none⟩) (lt_drew_alloc wr _)).trans cw1; have hbq := from_drew_alloc hb9; have hrq := owns_bl' HS.out.2.1 hbq)
            | (refine step_append_lies _ (by rfl) _ _ _ (by rfl) w.heap.size 51 i0 _ 5 48 Tryz.underlying30 hi0 hz0 hz1 hz2 rfl (by omega) u8 _ _ (by rfl) (hrq.alloc _)
                ⟨w9.heap.size, 0, none⟩ 1 1 (tkCells s p) (by rfl) (by rfl) (World.news_of_block (cs := (tkCells s p).toArray) (t := 51) (fr := (0, 0)) (heap_alloc_new w9 _)) (by simp [tkCells, Value.oneCell'])
                (by omega) (by unfold maxLen; omega) (by omega) (Nat.le_trans HS.out.2.2.2.2.size (Nat.le_trans hbq.size (by rw [World.size_alloc]; omega))) (w9.heap.size + 1) (World.size_alloc _ _) ?_; intro gg cap w10 hown1 hgrow hat hgl; have hq := HS.out.2.1.lt; have h9 := size_drew_alloc hb9; have m0 := held_keep k0 rfl h9 hgrow (fun j e => (hq j e).2); have m1 := held_keep k1 rfl h9 hgrow (fun j e => (hq j e).2)))
        go_wp2_with fail
        go_roundw
        case rel => exact ⟨k + 1, by omega, rfl, Lib.hid (HS.out.more HE.out.size HS.out.2.2.2.2.size HP.out h7' (hbq.alloc hbq.size _) hown1 hgrow)⟩
        case measure => simp [intOf]; omega
    · have hkl : k = (qGood s.data.toList).length := by omega
      subst hkl
      have hS := HS.out
      unfold SI at hS
      rw [List.take_length] at hS
      have HQ := Lib.hid hS
      clear hS
      go_wp2_with fail
      refine bodyPost_ret (v := .tuple #[u8, .int .i64 (qErrAt s.data.toList : Nat), .int .i64 (qErr s.data.toList : Nat)]) (by simp [results, Tryz.results10, go_sem]) rfl ⟨u8, rfl, ?_⟩
      exact ⟨HQ.out.2.1, HQ.out.2.2.1, HQ.out.2.2.2.2⟩
end Go.Proofs.YtdfkkeeohbgmbaaGreatDoor
