/- Package fragment: texts F2, G1, F3, G2, G3, G4, G5, F4, F5, F6, F7, F9a, F9, in one. -/
import Derived.Test.YtopbmndjnjnmcaaGreatDoorF1
import Derived.Lib.SlicesS
import Derived.Lib.QuietBelow
import Derived.Maps.OwnSet
import Derived.Deep.RegionLaw
import Derived.Deep.AppendLies
/- (F2) -/
/- Package fragment: what its reader of tokens does, as functions on lists. -/
namespace Go.Proofs.YtopbmndjnjnmcaaGreatDoor
open Go.RowKit Lx Go.Sort

/-- An open group without what lies in memory. -/
structure Grp where
  tok : Tok
  op : ByteArray
  kids : List Fr
  from_ : Int
def Gp.pure (f : Gp) : Grp := ⟨f.tok, f.op, f.kids, f.from_⟩
/-- A reader's state: the index, the innermost group, the others. -/
structure Rst where
  at_ : Nat
  g : Grp
  stk : List Grp
inductive Rs where
  | ok (s : Rst)
  | bad (e : Nat) (i : Int)

def tEnd : ByteArray := ⟨#[101, 110, 100]⟩
def tSlot : ByteArray := ⟨#[115, 108, 111, 116]⟩
def tClass : ByteArray := ⟨#[99, 108, 97, 115, 115]⟩
def tMacro : ByteArray := ⟨#[109, 97, 99, 114, 111]⟩
def tMethod : ByteArray := ⟨#[109, 101, 116, 104, 111, 100]⟩
def tBegin : ByteArray := ⟨#[98, 101, 103, 105, 110]⟩
def tIf : ByteArray := ⟨#[105, 102]⟩
def tBlock : ByteArray := ⟨#[98, 108, 111, 99, 107]⟩
def bs1 (b : UInt8) : ByteArray := ⟨#[b]⟩
def givenW : List ByteArray := [tBegin, tIf, tBlock, tMethod, tClass, tMacro]

/-- The token that closes a group. -/
def closeTok (t : Tok) (op : ByteArray) : Tok :=
  if (op.toList == [40]) = true then ⟨5, 0, bs1 41, t.at_, t.mark⟩ else if (op.toList == [91]) = true then ⟨5, 0, bs1 93, t.at_, t.mark⟩ else if (op.toList == [123]) = true then ⟨5, 0, bs1 125, t.at_, t.mark⟩ else ⟨1, 0, tEnd, t.at_, t.mark⟩

def isNm (t : Tok) (nm : ByteArray) : Bool := (t.kind == 1) && (t.text.toList == nm.toList)
/-- Whether names stand behind an index. -/
def nextAre (ts : List Tok) : Nat → List ByteArray → Bool
  | _, [] => true
  | i, nm :: r => (match ts[i + 1]? with | some t => isNm t nm | none => false) && nextAre ts (i + 1) r
def isSg (t : Tok) (b : UInt8) : Bool := (t.kind == 5) && (t.text.toList == [b])
def isStop (t : Tok) : Bool := isSg t 59 || (isSg t 44 || (isSg t 41 || (isSg t 93 || (isSg t 125 || isNm t tEnd))))
def stopsAt (ts : List Tok) (i : Nat) : Bool := match ts[i]? with | some t => isStop t | none => true
/-- Whether a token closes. -/
def isCl (t : Tok) : Bool := Lib.containsS [bs1 41, bs1 93, bs1 125, tEnd] t.text

/-- What closes a group: nothing, an end, an end with names behind it. -/
def clo (ws : List ByteArray) (s : List UInt8) : Option Bool :=
  if ws.any (fun x => x.toList == s) then some false
  else if [bs1 40, bs1 91, bs1 123, tBegin, tIf, tBlock].any (fun x => x.toList == s) then some false
  else if [tMethod, tClass, tMacro].any (fun x => x.toList == s) then some true else none

def addF (g : Grp) (f : Fr) : Grp := { g with kids := g.kids ++ [f] }
def pEnd (ts : List Tok) (s : Rst) : Rs :=
  match s.stk, ts[s.at_]? with
  | g2 :: rest, some t => if ((closeTok s.g.tok s.g.op).text.toList != t.text.toList) = true then .bad 20 s.at_ else .ok ⟨s.at_, addF g2 (.mk s.g.tok s.g.op s.g.kids), rest⟩
  | _, _ => .bad 0 0
def pDrop (ts : List Tok) : Nat → Rst → Rs
  | 0, s => .ok s
  | n + 1, s => match ts[s.at_ + 1]? with
    | some t => if tokOk t = true then pDrop ts n { s with at_ := s.at_ + 1 } else .bad 14 (s.at_ + 1 : Nat)
    | none => .bad 0 0
def repeats (op : ByteArray) (kids : List Fr) : List (List ByteArray) :=
  [op] :: (match kids with
    | f :: _ => if (f.op.toList == [] && f.tok.kind == 1) = true then [[f.tok.text], [op, f.tok.text]] else []
    | [] => [])
def pNamed (ts : List Tok) (s : Rst) : Rs :=
  match pEnd ts s with
  | .bad e i => .bad e i
  | .ok s1 => match (repeats s.g.op s.g.kids).find? (fun names => nextAre ts s.at_ names && stopsAt ts (s.at_ + 1 + names.length)) with
    | some names => pDrop ts names.length s1
    | none => .ok s1
def pOpens (ts : List Tok) (ws : List ByteArray) (s : Rst) (t : Tok) : Bool :=
  (clo ws t.text.toList).isSome && (!((t.kind == 1) && (s.g.op.toList == tMacro.toList) && (s.g.from_ == (s.at_ : Int) - 1)) && ((t.text.toList != tClass.toList) || !nextAre ts s.at_ [tSlot]))
def pTake (ts : List Tok) (ws : List ByteArray) (s : Rst) : Rs :=
  match ts[s.at_]? with
  | none => .bad 0 0
  | some t =>
    if isCl t = true then
      match clo ws s.g.op.toList with
      | none => .bad 20 s.at_
      | some false => pEnd ts s
      | some true => pNamed ts s
    else if pOpens ts ws s t = true then
      if 100 < s.stk.length + 1 then .bad 6 s.at_ else .ok ⟨s.at_, ⟨t, t.text, [], s.at_⟩, s.g :: s.stk⟩
    else .ok ⟨s.at_, addF s.g (.mk t ⟨#[]⟩ []), s.stk⟩
def pCheck (ts : List Tok) (i : Nat) : Bool := match ts[i]? with | some t => tokOk t | none => false
def pGo (ts : List Tok) (ws : List ByteArray) : Nat → Rst → Rs
  | 0, s => .ok s
  | n + 1, s => if s.at_ < ts.length then
      (if pCheck ts s.at_ = true then
        match pTake ts ws s with
        | .bad e i => .bad e i
        | .ok s' => pGo ts ws n { s' with at_ := s'.at_ + 1 }
      else .bad 14 s.at_)
    else .ok s
def zTok : Tok := ⟨0, 0, ⟨#[]⟩, 0, 0⟩
def st0 : Rst := ⟨0, ⟨zTok, ⟨#[]⟩, [], 0⟩, []⟩
/-- What read gives. -/
inductive Rd where
  | ok (l : List Fr)
  | bad (e : Nat) (i : Int)
def pRead0 (ts : List Tok) (ws : List ByteArray) : Rd :=
  match pGo ts ws ts.length st0 with
  | .bad e i => .bad e i
  | .ok s => if s.stk.length = 0 then .ok s.g.kids else .bad 21 s.g.from_
/-- Whether words may be given. -/
def wordOk (s : ByteArray) : Bool := (qKind s.data.toList == 1) && !decide (0 ≤ Lib.indexByte s.data.toList 64)
def okWordsAt (ws : List ByteArray) (i : Nat) (x : ByteArray) : Bool := wordOk x && !Lib.containsS [tEnd, tSlot] x && !Lib.containsS givenW x && !Lib.containsS (ws.take i) x
def okWords (ws : List ByteArray) : Bool := decide (ws.length ≤ 40) && (List.range ws.length).all fun i => okWordsAt ws i (ws.getD i ByteArray.empty)
def pRead (ts : List Tok) (ws : List ByteArray) : Rd :=
  if okWords ws = false then .bad 1 0 else if 6000 < ts.length then .bad 2 0 else pRead0 ts ws
end Go.Proofs.YtopbmndjnjnmcaaGreatDoor

/- (G1) -/
/- Package fragment: the tokens of fragments, as lists. -/
namespace Go.Proofs.YtopbmndjnjnmcaaGreatDoor
open Go.RowKit Lx Go.Sort

def fsz : List Fr → Nat
  | [] => 0
  | .mk _ _ ks :: r => 1 + fsz ks + fsz r
/-- The tokens of fragments whose groups are at a depth. -/
def toksP : Nat → List Fr → List Tok
  | _, [] => []
  | d, .mk t op ks :: r => (if op.toList = [] then [t] else if d ≤ 100 then t :: (toksP (d + 1) ks ++ [closeTok t op]) else []) ++ toksP d r
def tokF (d : Nat) (f : Fr) : List Tok := if f.op.toList = [] then [f.tok] else if d ≤ 100 then f.tok :: (toksP (d + 1) f.kids ++ [closeTok f.tok f.op]) else []
theorem toksP_cons (d : Nat) (f : Fr) (r : List Fr) : toksP d (f :: r) = tokF d f ++ toksP d r := by
  cases f; rw [toksP]; rfl
theorem toksP_app (d : Nat) : ∀ (a b : List Fr), toksP d (a ++ b) = toksP d a ++ toksP d b
  | [], b => by simp [toksP]
  | f :: a, b => by rw [List.cons_append, toksP_cons, toksP_cons, toksP_app d a b, List.append_assoc]
theorem toksP_take (d : Nat) {l : List Fr} {k : Nat} {f : Fr} (h : l[k]? = some f) : toksP d (l.take (k + 1)) = toksP d (l.take k) ++ tokF d f := by
  rw [List.take_add_one, h, Option.toList_some, toksP_app, toksP_cons]
  simp [toksP]
theorem toksP_split (d : Nat) {l : List Fr} {k : Nat} {f : Fr} (h : l[k]? = some f) : toksP d l = toksP d (l.take k) ++ (tokF d f ++ toksP d (l.drop (k + 1))) := by
  obtain ⟨h1, h2⟩ := List.getElem?_eq_some_iff.1 h
  have := List.take_append_drop k l
  rw [List.drop_eq_getElem_cons h1, h2] at this
  rw [← toksP_cons, ← toksP_app, this]
theorem fsz_kids {l : List Fr} : ∀ {k : Nat} {f : Fr}, l[k]? = some f → fsz f.kids < fsz l := by
  induction l with
  | nil => intro k f h; cases h
  | cons g r ih =>
    intro k f h
    obtain ⟨t, op, ks⟩ := g
    rw [fsz]
    cases k with
    | zero => simp only [List.getElem?_cons_zero, Option.some.injEq] at h; subst h; simp only [Fr.kids]; omega
    | succ k =>
      rw [List.getElem?_cons_succ] at h
      have := ih h; omega
end Go.Proofs.YtopbmndjnjnmcaaGreatDoor

/- (F3) -/
/- Package fragment: closing, inner, see, nextAre, stopsAt and among. -/
namespace Go.Proofs.YtopbmndjnjnmcaaGreatDoor
open Go.RowKit Lx Go.Sort

attribute [local go_sem] Oper.semAt_some

theorem cell_lt' {w : World} {a : Addr} {v : Value} (h : w.cell? a = some v) : a.block < w.heap.size := by
  unfold World.cell? at h
  split at h
  · rename_i h2; exact (Array.getElem?_eq_some_iff.1 h2).1
  · cases h
theorem rd_cells {W : World} {r : Nat} {a b c d : Value} (h : W.heap[r]? = some (.cells #[a, b, c, d] 101 (0, 0))) :
    W.cell? ⟨r, 0, none⟩ = some a ∧ W.cell? ⟨r, 1, none⟩ = some b ∧ W.cell? ⟨r, 2, none⟩ = some c ∧ W.cell? ⟨r, 3, none⟩ = some d := by
  refine ⟨?_, ?_, ?_, ?_⟩ <;> (rw [cell_of_row _ _ _ _ _ _ h]; rfl)

theorem info50 : (Tryz.prog.info? 50).map (·.size) = some 5 := by kernel_rfl
theorem info157 : (Tryz.prog.info? 157).map (·.size) = some 2 := by kernel_rfl
theorem tok_ret {fn : Func} {tmps : Array Value} {W : World} {g : Nat} {cs : Array Value} {Post : Ending → World → Prop} (hf : fn.results = #[.cell 2 50]) (hp : tmps.getD 2 undef = .pointer (some ⟨g, 0, none⟩)) (hg : W.heap[g]? = some (.cells cs 50 (0, 0))) (hs : cs.size = 5) (h : Post (.returned (.agg cs)) W) :
    bodyPost Tryz.prog fn Post Exit.ret { tmps := tmps, defers := [] } W :=
  bodyPost_ret (results_cell_row hf tmps W g 50 cs (0, 0) _ hp hg Tryz.underlying50 rfl (by rw [hs]; exact info50)) rfl h
theorem sight_ret {fn : Func} {tmps : Array Value} {W : World} {g : Nat} {cs : Array Value} {Post : Ending → World → Prop} (hf : fn.results = #[.cell 4 157]) (hp : tmps.getD 4 undef = .pointer (some ⟨g, 0, none⟩)) (hg : W.heap[g]? = some (.cells cs 157 (0, 0))) (hs : cs.size = 2) (h : Post (.returned (.agg cs)) W) :
    bodyPost Tryz.prog fn Post Exit.ret { tmps := tmps, defers := [] } W :=
  bodyPost_ret (results_cell_row hf tmps W g 157 cs (0, 0) _ hp hg Tryz.underlying157 rfl (by rw [hs]; exact info157)) rfl h
/-- A new block between two others lies where one reckons. -/
theorem second_new (w : World) (a b c : Obj) : (((w.alloc a).alloc b).alloc c).heap[w.heap.size + 1]? = some b := by
  have := heap_alloc_new (w.alloc a) b
  rw [World.size_alloc] at this
  exact (Below.heap_alloc _ c _ (by rw [World.size_alloc, World.size_alloc]; omega)).trans this

set_option maxRecDepth 100000 in
/-- **closing** -/
theorem closing_any (t : Tok) (op : ByteArray) (kv : Value) (w : World) :
    Calls Tryz.prog 99 #[.agg (frC t op kv).toArray] w fun e W => e = .returned (TokV (closeTok t op)) ∧ Below w.heap.size w W := by
  obtain ⟨k, n, x, a, m⟩ := t
  unfold frC TokV tokC closeTok bs1 tEnd
  have hb : ∀ a b c : Obj, Below w.heap.size w (((w.alloc a).alloc b).alloc c) := fun a b c => (((Below.refl w.heap.size w).alloc (Nat.le_refl _) a).alloc (by rw [World.size_alloc]; omega) b).alloc (by rw [World.size_alloc, World.size_alloc]; omega) c
  have HB := Lib.hid hb
  clear hb
  cases e0 : (op.toList == [40])
  · cases e1 : (op.toList == [91])
    · cases e2 : (op.toList == [123])
      all_goals
        go_enter Tryz.func99, Tryz.ntmps99
        go_wp2_with fail
        exact tok_ret rfl rfl (second_new _ _ _ _) rfl ⟨rfl, HB.out _ _ _⟩
    · go_enter Tryz.func99, Tryz.ntmps99
      go_wp2_with fail
      exact tok_ret rfl rfl (second_new _ _ _ _) rfl ⟨rfl, HB.out _ _ _⟩
  · go_enter Tryz.func99, Tryz.ntmps99
    go_wp2_with fail
    exact tok_ret rfl rfl (second_new _ _ _ _) rfl ⟨rfl, HB.out _ _ _⟩

set_option maxRecDepth 100000 in
/-- **inner** -/
theorem inner_any (r gb n cap : Nat) (hc : n + 1 ≤ cap) (hm : cap ≤ maxLen) (w : World) (h : w.cell? ⟨r, 2, none⟩ = some (.slice (some ⟨gb, 0, none⟩) (n + 1) cap)) :
    Calls Tryz.prog 74 #[.pointer (some ⟨r, 0, none⟩)] w fun e W => e = .returned (.pointer (some ⟨gb, n * 8, none⟩)) ∧ ∃ k, W = w.drewN k := by
  unfold maxLen at hm
  have hw : IntKind.i64.wrap ((n : Int) + 1 - 1) = (n : Int) := by rw [IntWalk.i64_in _ (by omega)]; omega
  go_enter Tryz.func74, Tryz.ntmps74
  go_wp2
  go_quiet (fail)
  go_wp2
  go_ret
  exact ⟨rfl, _, rfl⟩

set_option maxRecDepth 100000 in
/-- **see** -/
theorem see_any (ts : List Tok) (vt : Value) (r i : Nat) (t : Tok) (ht : ts[i]? = some t) (x : Int) (hx : x = (i : Int)) (w : World) (h0 : w.cell? ⟨r, 0, none⟩ = some vt) (hr : TokRead w vt ts) :
    Calls Tryz.prog 123 #[.pointer (some ⟨r, 0, none⟩), .int .i64 x] w fun e W => e = .returned (.agg #[.int .i64 t.kind, .string t.text]) ∧ Below w.heap.size w W := by
  subst hx
  obtain ⟨a, c, rfl, ⟨hn, hc⟩, hr⟩ := hr
  obtain ⟨g, o, rfl, hg, k0, _, k2, _, _⟩ := hr i t ht
  have hi := (List.getElem?_eq_some_iff.1 ht).1
  have hlr : r < w.heap.size := cell_lt' h0
  have hb : ∀ a : Obj, Below w.heap.size w (w.alloc a) := fun a => (Below.refl w.heap.size w).alloc (Nat.le_refl _) a
  clear hr ht
  have hz : w.heap.size ≠ r := by omega
  have hz2 : w.heap.size ≠ g := by omega
  go_enter Tryz.func123, Tryz.ntmps123
  go_wp2_with fail
  go_region_held3 (fun w' => w'.cell? ⟨r, 0, none⟩ = some (.slice (some ⟨g, o, none⟩) ts.length c) ∧ w'.cell? ⟨g, o + i * 5, none⟩ = some (.int .i64 t.kind) ∧ w'.cell? ⟨g, o + i * 5 + 2, none⟩ = some (.string t.text)) (first | go_keep) (fail)
  go_wp2_with fail
  exact sight_ret rfl rfl (heap_alloc_new w _) rfl ⟨rfl, (hb _).drew⟩

/-- A slice of strings. -/
def StrRead (W : World) (v : Value) (ws : List ByteArray) : Prop :=
  ∃ a c, v = .slice a ws.length c ∧ (ws.length ≤ maxLen ∧ ws.length ≤ c) ∧ ∀ k s, ws[k]? = some s → ∃ g o, a = some ⟨g, o, none⟩ ∧ g < W.heap.size ∧ W.cell? ⟨g, o + k, none⟩ = some (.string s)
theorem StrRead.bl {W W' : World} {v : Value} {ws : List ByteArray} (h : StrRead W v ws) (hb : Below W.heap.size W W') : StrRead W' v ws := by
  obtain ⟨a, c, hv, hm, h⟩ := h
  refine ⟨a, c, hv, hm, fun k t hk => ?_⟩
  obtain ⟨g, o, ha, hg, h0⟩ := h k t hk
  exact ⟨g, o, ha, Nat.lt_of_lt_of_le hg hb.size, (hb.cell (p := ⟨g, _, none⟩) hg).trans h0⟩

theorem isNm_eq (t : Tok) (nm : ByteArray) : isNm t nm = ((t.kind == 1) && (t.text.toList == nm.toList)) := rfl
/-- Two sights are compared. -/
theorem guard157 : Tryz.prog.eqGuardType Tryz.prog.depth 157 = false := by kernel_rfl
theorem held157 : Tryz.prog.stoodInHeld 157 = false := by kernel_rfl
theorem fields157 : Tryz.prog.underlying 157 = some (.struct (Tryz.prog.fieldsOf 157)) := by kernel_rfl
theorem sg_guard (op : BinOp) (x y : Operand) (xs ys : Array Value) (w : World) : (eqGuard op 157 x y (.agg xs) (.agg ys)).run Tryz.prog w = .ok () w := run_eqGuard_agg w op 157 x y xs ys guard157
theorem sg_neq (w : World) (k k' : Int) (x x' : ByteArray) : (Go.binOp .neq 157 (.agg #[.int .i64 k, .string x]) (.agg #[.int .i64 k', .string x'])).run Tryz.prog w = .ok (.bool (!((k == k') && (x.toList == x'.toList)))) w := by
  rw [run_neq_struct, run_equalIn_struct w 9999 157 _ _ fields157 held157]
  cases h1 : (k == k') <;> cases h2 : (x.toList == x'.toList) <;> simp [go_sem, h1, h2]
theorem sg_eql (w : World) (k k' : Int) (x x' : ByteArray) : (Go.binOp .eql 157 (.agg #[.int .i64 k, .string x]) (.agg #[.int .i64 k', .string x'])).run Tryz.prog w = .ok (.bool ((k == k') && (x.toList == x'.toList))) w := by
  rw [run_eql_struct, run_equalIn_struct w 9999 157 _ _ fields157 held157]
  cases h1 : (k == k') <;> cases h2 : (x.toList == x'.toList) <;> simp [go_sem, h1, h2]
attribute [local go_sem ↓] sg_neq sg_eql sg_guard

theorem nextAre_app (ts : List Tok) (b : List ByteArray) : ∀ (a : List ByteArray) (i : Nat), nextAre ts i (a ++ b) = (nextAre ts i a && nextAre ts (i + a.length) b)
  | [], i => by simp [nextAre]
  | x :: r, i => by
    simp only [List.cons_append, nextAre, List.length_cons]
    rw [nextAre_app ts b r (i + 1), Bool.and_assoc, show i + 1 + r.length = i + (r.length + 1) by omega]
/-- What nextAre says of the first names. -/
theorem nextAre_take (ts : List Tok) : ∀ (ws : List ByteArray) (i k : Nat), nextAre ts i ws = (nextAre ts i (ws.take k) && nextAre ts (i + k) (ws.drop k))
  | ws, i, 0 => by simp [nextAre]
  | [], i, k + 1 => by simp [nextAre]
  | x :: r, i, k + 1 => by
    simp only [List.take_succ_cons, List.drop_succ_cons, nextAre]
    rw [nextAre_take ts r (i + 1) k, Bool.and_assoc, show i + 1 + k = i + (k + 1) by omega]

set_option maxRecDepth 100000 in
set_option maxHeartbeats 4000000 in
/-- **nextAre** -/
theorem nextAre_any (ts : List Tok) (vt vw : Value) (ws : List ByteArray) (r i : Nat) (hts : ts.length ≤ 6000) (hws : ws.length ≤ 100) (hi : i ≤ 6000) (w : World) (h0 : w.cell? ⟨r, 0, none⟩ = some vt) (h1 : w.cell? ⟨r, 1, none⟩ = some (.int .i64 i)) (hr : TokRead w vt ts) (hw : StrRead w vw ws) :
    Calls Tryz.prog 101 #[.pointer (some ⟨r, 0, none⟩), vw] w fun e W => e = .returned (.bool (nextAre ts i ws)) ∧ Below w.heap.size w W := by
  have HR := Lib.hid hr
  have lr : r < w.heap.size := cell_lt' h0
  obtain ⟨a, c, rfl, ⟨hn, hc⟩, hrr⟩ := hr
  obtain ⟨aw, cw, rfl, ⟨hnw, hcw⟩, hsw⟩ := hw
  have HS := Lib.hid hsw
  have H0 := Lib.hid h0
  have H1 := Lib.hid h1
  clear hrr hsw h0 h1
  obtain ⟨q, hq⟩ : ∃ q, nextAre ts i ws = q := ⟨_, rfl⟩
  rw [hq]
  have HQ := Lib.hid hq
  clear hq
  go_enter Tryz.func101, Tryz.ntmps101
  go_wp2_with fail
  go_loopw [10] (fun x wr => ∃ k : Nat, k ≤ ws.length ∧ x = .int .i64 k ∧ Hid (nextAre ts i (ws.take k) = true) ∧ Hid (Below w.heap.size w wr)) (fun x _ => ws.length - (intOf x).toNat)
  case atStart => exact ⟨0, by omega, rfl, Lib.hid (by simp [nextAre]), Lib.hid (Below.refl _ _)⟩
  case round =>
    obtain ⟨k, hk, rfl, HN, HB⟩ := hrel
    have lrr : r < wr.heap.size := Nat.lt_of_lt_of_le lr HB.out.size
    have hst : q = nextAre ts (i + k) (ws.drop k) := by rw [← HQ.out, nextAre_take ts ws i k, HN.out, Bool.true_and]
    by_cases hlt : k < ws.length
    · obtain ⟨nm, hnm⟩ : ∃ nm, ws[k]? = some nm := ⟨_, List.getElem?_eq_getElem hlt⟩
      obtain ⟨gw, ow, rfl, hgw, s0⟩ := HS.out k nm hnm
      have s0' : wr.cell? ⟨gw, ow + k, none⟩ = some (.string nm) := (HB.out.cell (p := ⟨gw, _, none⟩) hgw).trans s0
      have k0 : wr.cell? ⟨r, 0, none⟩ = some (.slice a ts.length c) := (HB.out.cell (p := ⟨r, 0, none⟩) lr).trans H0.out
      have k1 : wr.cell? ⟨r, 1, none⟩ = some (.int .i64 i) := (HB.out.cell (p := ⟨r, 1, none⟩) lr).trans H1.out
      rw [List.drop_eq_getElem_cons hlt, nextAre, show ws[k] = nm from (List.getElem?_eq_some_iff.1 hnm).2] at hst
      have hw0 : IntKind.i64.wrap ((i : Int) + 1) = ((i + 1 : Nat) : Int) := by rw [IntWalk.i64_in _ (by omega)]; omega
      have hw1 : IntKind.i64.wrap (((i + 1 : Nat) : Int) + (k : Int)) = ((i + k + 1 : Nat) : Int) := by rw [IntWalk.i64_in _ (by omega)]; omega
      have HST := Lib.hid hst
      clear hst s0
      by_cases hge : ts.length ≤ i + k + 1
      · have hqf : q = false := by rw [HST.out, List.getElem?_eq_none (by omega)]; rfl
        subst hqf
        have hd : decide (((i + k + 1 : Nat) : Int) ≥ (ts.length : Int)) = true := by simp; omega
        go_wp2_with fail
        go_ret
        exact ⟨rfl, HB.out⟩
      · obtain ⟨t, ht⟩ : ∃ t, ts[i + k + 1]? = some t := ⟨_, List.getElem?_eq_getElem (by omega)⟩
        have hd : decide (((i + k + 1 : Nat) : Int) ≥ (ts.length : Int)) = false := by simp; omega
        have hrw := HR.out.bl (HB.out)
        have HRW := Lib.hid hrw
        clear hrw
        go_wp2_with fail
        go_at_call 123
        refine (see_any ts _ r (i + k + 1) t ht _ (by omega) _ k0 HRW.out).mono ?_
        rintro e w9 ⟨rfl, hb9⟩
        have hb0 := HB.out.trans (hb9.mono HB.out.size)
        have HB0 := Lib.hid hb0
        have hsr : q = (isNm t nm && nextAre ts (i + k + 1) (ws.drop (k + 1))) := by rw [HST.out, ht]
        have HSR := Lib.hid hsr
        clear hb0 hsr
        cases he : ((t.kind == 1) && (t.text.toList == nm.toList))
        · have hqf : q = false := by rw [HSR.out, isNm_eq, he]; rfl
          subst hqf
          go_wp2_with fail
          go_ret
          exact ⟨rfl, HB0.out⟩
        · have hn1 : nextAre ts i (ws.take (k + 1)) = true := by
            rw [List.take_add_one, hnm, Option.toList_some, nextAre_app, HN.out, List.length_take, Nat.min_eq_left hk, Bool.true_and]
            simp only [nextAre]
            rw [ht]
            simp [isNm_eq, he]
          go_wp2_with fail
          go_roundw
          case rel => exact ⟨k + 1, by omega, rfl, Lib.hid hn1, HB0⟩
          case measure => simp [intOf]; omega
    · obtain rfl : k = ws.length := by omega
      have hqt : q = true := by rw [hst, List.drop_length]; rfl
      subst hqt
      go_wp2_with fail
      go_ret
      exact ⟨rfl, HB.out⟩
end Go.Proofs.YtopbmndjnjnmcaaGreatDoor

/- (G2) -/
/- Package fragment: pass. -/
namespace Go.Proofs.YtopbmndjnjnmcaaGreatDoor
open Go.RowKit Lx Go.Sort

attribute [local go_sem] Oper.semAt_some

/-- Fragments in memory are as they were. -/
def Keep52 (W W' : World) : Prop := ∀ (b : Nat) (cs : Array Value), W.heap[b]? = some (.cells cs 52 (0, 0)) → W'.heap[b]? = some (.cells cs 52 (0, 0))
theorem Keep52.trans {a b c : World} (h : Keep52 a b) (k : Keep52 b c) : Keep52 a c := fun x cs hx => k x cs (h x cs hx)
theorem Keep52.bl {W W' : World} (h : Below W.heap.size W W') : Keep52 W W' := fun b _ hb => (h.block b (Array.getElem?_eq_some_iff.1 hb).1).trans hb

/-- How pass ends. -/
def PassEnd (pre tk : List Tok) (J X : List Tok → World → Prop) (W0 : World) (e : Ending) (W : World) : Prop :=
  ((e = .returned (.bool true) ∧ J (pre ++ tk) W) ∨ (e = .returned (.bool false) ∧ ∃ a b, pre ++ tk = a ++ b ∧ X a W)) ∧ Keep52 W0 W

theorem fr_new7 {W : World} {N : Nat} {t : Tok} {op : ByteArray} {kv : Value} (kn : W.heap[N]? = some (.cells (frC t op kv).toArray 52 (0, 0))) :
    W.cell? ⟨N, 0, none⟩ = some (.int .i64 t.kind) ∧ W.cell? ⟨N, 1, none⟩ = some (.int .i64 t.num) ∧ W.cell? ⟨N, 2, none⟩ = some (.string t.text) ∧ W.cell? ⟨N, 3, none⟩ = some (.int .i64 t.at_) ∧ W.cell? ⟨N, 4, none⟩ = some (.int .i64 t.mark) ∧
      W.cell? ⟨N, 5, none⟩ = some (.string op) ∧ W.cell? ⟨N, 6, none⟩ = some kv := by
  refine ⟨?_, ?_, ?_, ?_, ?_, ?_, ?_⟩ <;> (rw [cell_of_row _ _ _ _ _ _ kn]; rfl)

set_option maxRecDepth 100000 in
set_option maxHeartbeats 8000000 in
/-- **pass** -/
theorem pass_any (lb : Nat) (J X : List Tok → World → Prop) (w0 : World) (S : Nat → Prop) (hJ1 : ∀ pre W, J pre W → Below w0.heap.size w0 W) (hJ2 : ∀ pre W W', J pre W → Below W.heap.size W W' → J pre W')
    (hY : ∀ pre t W, J pre W → YieldAt Fence.wide 0 Tryz.prog lb #[TokV t] W fun e W' => ((e = .returned (.bool true) ∧ J (pre ++ [t]) W') ∨ (e = .returned (.bool false) ∧ X (pre ++ [t]) W')) ∧ Keep52 W W') :
    ∀ (n : Nat) (l : List Fr) (d : Nat) (v : Value) (pre : List Tok) (W : World), fsz l < n → d ≤ 200 → FrRead w0 S v l → J pre W →
      CallsIn Fence.wide 1 Tryz.prog 84 #[v, .int .i64 d, .func (.yield lb) #[] #[]] W (PassEnd pre (toksP d l) J X W) := by
  intro n
  induction n with
  | zero => intro l d v pre W h; omega
  | succ n ih =>
    intro l d v pre W hn hd hr hj
    have HR := Lib.hid hr
    obtain ⟨va, vc, vg, vo, rfl, hm, ha, hat⟩ := hr
    have HAT := Lib.hid hat
    have HA := Lib.hid ha
    have HJ := Lib.hid hj
    obtain ⟨hm1, hm2⟩ := hm
    unfold maxLen at hm1
    clear hat hj ha
    refine callsIn_of_wp Tryz.func84 rfl trivial ?_ rfl
    simp only [Tryz.ntmps84, List.size_toArray, List.length_cons, List.length_nil, Nat.reduceAdd, Nat.reduceSub, Array.replicate_succ, Array.replicate_zero, List.push_toArray, List.append_toArray, List.nil_append, List.cons_append]
    gi_wp2
    gi_loopw [11] (fun x wr => ∃ k : Nat, k ≤ l.length ∧ x = .int .i64 k ∧ Hid (J (pre ++ toksP d (l.take k)) wr) ∧ Hid (Keep52 W wr)) (fun x _ => l.length - (intOf x).toNat)
    case atStart => exact ⟨0, by omega, rfl, Lib.hid (by simpa [toksP] using HJ.out), Lib.hid fun _ _ h => h⟩
    case round =>
      clear HJ
      obtain ⟨k, hk, rfl, HJ, HKP⟩ := hrel
      by_cases hlt : k < l.length
      · obtain ⟨f, hf⟩ : ∃ f, l[k]? = some f := ⟨_, List.getElem?_eq_getElem hlt⟩
        have hva : va = some ⟨vg, vo, none⟩ := HA.out (by intro h; rw [h] at hlt; simp at hlt)
        subst hva
        obtain ⟨kv, hs, hg, c0, c1, c2, c3, c4, c5, c6, hkr⟩ := HAT.out.get hf
        obtain ⟨ka, kc, hkv⟩ : ∃ a c, kv = .slice a f.kids.length c := by obtain ⟨a, c, _, _, h, _⟩ := hkr; exact ⟨a, c, h⟩
        subst hkv
        have hbl := hJ1 _ _ HJ.out
        have m0 := (hbl.cell (p := ⟨vg, vo + k * 7, none⟩) hg).trans c0
        have m1 := (hbl.cell (p := ⟨vg, vo + k * 7 + 1, none⟩) hg).trans c1
        have m2 := (hbl.cell (p := ⟨vg, vo + k * 7 + 2, none⟩) hg).trans c2
        have m3 := (hbl.cell (p := ⟨vg, vo + k * 7 + 3, none⟩) hg).trans c3
        have m4 := (hbl.cell (p := ⟨vg, vo + k * 7 + 4, none⟩) hg).trans c4
        have m5 := (hbl.cell (p := ⟨vg, vo + k * 7 + 5, none⟩) hg).trans c5
        have m6 := (hbl.cell (p := ⟨vg, vo + k * 7 + 6, none⟩) hg).trans c6
        have HKR := Lib.hid hkr
        have HF := Lib.hid hf
        have HTK := Lib.hid (toksP_take d hf)
        have hfn : fsz f.kids < n := by have := fsz_kids hf; omega
        have k1 : (k : Int) < (l.length : Int) := by omega
        clear c0 c1 c2 c3 c4 c5 c6 hkr hf hbl hs
        have hsp := toksP_split d HF.out
        have hba := (Below.refl wr.heap.size wr).alloc (Nat.le_refl _) (.cells (frC f.tok f.op (.slice ka f.kids.length kc)).toArray 52)
        have hja := hJ2 _ _ _ HJ.out hba
        have hna := heap_alloc_new wr (.cells (frC f.tok f.op (.slice ka f.kids.length kc)).toArray 52)
        obtain ⟨fn, tmps, assign, body, hy, hR⟩ := hY _ f.tok _ hja
        have HSP := Lib.hid hsp
        have HNA := Lib.hid hna
        have HKA := Lib.hid (HKP.out.trans (Keep52.bl hba))
        clear hsp hba hna hja
        unfold TokV tokC at hy
        unfold frC at hy hR
        cases e1 : (f.op.toList == [])
        · have e2 : f.op.toList.isEmpty = false := by rw [← e1]; cases f.op.toList <;> rfl
          have hop : ¬ f.op.toList = [] := by intro h; rw [h] at e1; simp at e1
          by_cases h100 : d ≤ 100
          · have htf : tokF d f = f.tok :: (toksP (d + 1) f.kids ++ [closeTok f.tok f.op]) := by unfold tokF; rw [if_neg hop, if_pos h100]
            have HTF := Lib.hid htf
            have d1 : decide ((d : Int) ≤ 100) = true := decide_eq_true (by omega)
            clear htf hop
            gi_wp2_with fail
            refine hR.mono ?_
            rintro e W5 ⟨⟨rfl, hJ5⟩ | ⟨rfl, hX5⟩, hkp⟩
            · have hn5 := hkp _ _ HNA.out
              obtain ⟨n0, n1, n2, n3, n4, n5, n6⟩ := fr_new7 hn5
              have HN5 := Lib.hid hn5
              have hih := ih f.kids (d + 1) _ _ W5 hfn (by omega) HKR.out hJ5
              rw [show ((d + 1 : Nat) : Int) = (d : Int) + 1 by omega] at hih
              have HIH := Lib.hid hih
              have HKP5 := Lib.hid (HKA.out.trans hkp)
              clear hJ5 hkp hn5 hih
              gi_wp2_with fail
              refine ⟨trivial, (callsIn_wide.2 (callsIn_wide.1 HIH.out)).mono ?_⟩
              rintro e W6 ⟨⟨rfl, hJ6⟩ | ⟨rfl, a, b, hab, hX6⟩, hkp6⟩
              · have hn6 := hkp6 _ _ HN5.out
                clear n0 n1 n2 n3 n4 n5 n6
                obtain ⟨n0, n1, n2, n3, n4, n5, n6⟩ := fr_new7 hn6
                have HKP6 := Lib.hid (HKP5.out.trans hkp6)
                have HJ6 := Lib.hid hJ6
                have hclo := closing_any f.tok f.op (.slice ka f.kids.length kc) W6
                unfold frC TokV tokC at hclo
                have HCL := Lib.hid hclo
                clear hJ6 hkp6 hn6 hclo
                gi_wp2_with fail
                refine ⟨trivial, (callsIn_wide.2 HCL.out).mono ?_⟩
                rintro e W7 ⟨rfl, hb7⟩
                obtain ⟨fn2, tmps2, assign2, body2, hy2, hR2⟩ := hY _ (closeTok f.tok f.op) _ (hJ2 _ _ _ HJ6.out hb7)
                have HKP7 := Lib.hid (HKP6.out.trans (Keep52.bl hb7))
                unfold TokV tokC at hy2
                clear hb7 n0 n1 n2 n3 n4 n5 n6
                gi_wp2_with fail
                refine hR2.mono ?_
                rintro e W8 ⟨⟨rfl, hJ8⟩ | ⟨rfl, hX8⟩, hkp8⟩
                · have HJ8 : Hid (J (pre ++ toksP d (l.take (k + 1))) W8) := Lib.hid (by rw [HTK.out, HTF.out]; simpa [List.append_assoc] using hJ8)
                  have HKP8 := Lib.hid (HKP7.out.trans hkp8)
                  clear hJ8 hkp8
                  gi_wp2_with fail
                  go_roundw
                  case rel => exact ⟨k + 1, by omega, rfl, HJ8, HKP8⟩
                  case measure => simp [intOf]; omega
                · have HX8 := Lib.hid hX8
                  have HKP8 := Lib.hid (HKP7.out.trans hkp8)
                  clear hX8 hkp8
                  gi_wp2_with fail
                  go_ret
                  exact ⟨.inr ⟨rfl, _, toksP d (l.drop (k + 1)), by rw [HSP.out, HTF.out]; simp, HX8.out⟩, HKP8.out⟩
              · have HX6 := Lib.hid hX6
                have HAB := Lib.hid hab
                have HKP6 := Lib.hid (HKP5.out.trans hkp6)
                clear hX6 hab hkp6
                gi_wp2_with fail
                refine ⟨trivial, ?_⟩
                gi_wp2_with fail
                refine ⟨fun _ _ => trivial, ?_⟩
                gi_wp2_with fail
                go_ret
                exact ⟨.inr ⟨rfl, a, b ++ (closeTok f.tok f.op :: toksP d (l.drop (k + 1))), by rw [HSP.out, HTF.out, ← List.append_assoc a, ← HAB.out]; simp, HX6.out⟩, HKP6.out⟩
            · have HX5 := Lib.hid hX5
              have HKP5 := Lib.hid (HKA.out.trans hkp)
              clear hX5 hkp
              gi_wp2_with fail
              refine ⟨trivial, ?_⟩
              gi_wp2_with fail
              refine ⟨trivial, ?_⟩
              gi_wp2_with fail
              refine ⟨fun _ _ => trivial, ?_⟩
              gi_wp2_with fail
              go_ret
              exact ⟨.inr ⟨rfl, _, toksP (d + 1) f.kids ++ (closeTok f.tok f.op :: toksP d (l.drop (k + 1))), by rw [HSP.out, HTF.out]; simp, HX5.out⟩, HKP5.out⟩
          · have htf : tokF d f = [] := by unfold tokF; rw [if_neg hop, if_neg h100]
            have d1 : decide ((d : Int) ≤ 100) = false := decide_eq_false (by omega)
            have HJA : Hid (J (pre ++ toksP d (l.take (k + 1))) (wr.alloc (.cells (frC f.tok f.op (.slice ka f.kids.length kc)).toArray 52))) := Lib.hid (by rw [HTK.out, htf, List.append_nil]; exact hJ2 _ _ _ HJ.out ((Below.refl wr.heap.size wr).alloc (Nat.le_refl _) _))
            unfold frC at HJA HKA
            clear htf hop
            gi_wp2_with fail
            go_roundw
            case rel => exact ⟨k + 1, by omega, rfl, HJA, HKA⟩
            case measure => simp [intOf]; omega
        · have e2 : f.op.toList.isEmpty = true := by rw [← e1]; cases f.op.toList <;> rfl
          have hop : f.op.toList = [] := by simpa using e1
          have htf : tokF d f = [f.tok] := by unfold tokF; rw [if_pos hop]
          have HTF := Lib.hid htf
          clear htf hop
          gi_wp2_with fail
          refine hR.mono ?_
          rintro e W5 ⟨⟨rfl, hJ5⟩ | ⟨rfl, hX5⟩, hkp⟩
          · have HJ5 : Hid (J (pre ++ toksP d (l.take (k + 1))) W5) := Lib.hid (by rw [HTK.out, HTF.out, ← List.append_assoc]; exact hJ5)
            have HKP5 := Lib.hid (HKA.out.trans hkp)
            clear hJ5 hkp
            gi_wp2_with fail
            go_roundw
            case rel => exact ⟨k + 1, by omega, rfl, HJ5, HKP5⟩
            case measure => simp [intOf]; omega
          · have HX5 := Lib.hid hX5
            have HKP5 := Lib.hid (HKA.out.trans hkp)
            clear hX5 hkp
            gi_wp2_with fail
            go_ret
            exact ⟨.inr ⟨rfl, _, toksP d (l.drop (k + 1)), by rw [HSP.out, HTF.out]; simp, HX5.out⟩, HKP5.out⟩
      · obtain rfl : k = l.length := by omega
        have hj := HJ.out
        rw [List.take_length] at hj
        have HJ2 := Lib.hid hj
        clear hj
        gi_wp2_with fail
        go_ret
        exact ⟨.inl ⟨rfl, HJ2.out⟩, HKP.out⟩
end Go.Proofs.YtopbmndjnjnmcaaGreatDoor

/- (G3) -/
/- Package fragment: the iterator over tokens, and a law for the range over it. -/
namespace Go.Proofs.YtopbmndjnjnmcaaGreatDoor
open Go.RowKit Lx

attribute [local go_sem] Oper.semAt_some

/-- How the iterator ends. -/
def TokEnd (tk : List Tok) (J X : List Tok → World → Prop) (e : Ending) (W : World) : Prop :=
  (e = .returned (.tuple #[]) ∧ J tk W) ∨ (e = .returned (.tuple #[]) ∧ ∃ a b, tk = a ++ b ∧ X a W)

set_option maxRecDepth 100000 in
set_option maxHeartbeats 4000000 in
theorem tokens1_any (lb bx : Nat) (J X : List Tok → World → Prop) (w0 : World) (S : Nat → Prop) (hJ1 : ∀ pre W, J pre W → Below w0.heap.size w0 W) (hJ2 : ∀ pre W W', J pre W → Below W.heap.size W W' → J pre W')
    (hY : ∀ pre t W, J pre W → YieldAt Fence.wide 0 Tryz.prog lb #[TokV t] W fun e W' => ((e = .returned (.bool true) ∧ J (pre ++ [t]) W') ∨ (e = .returned (.bool false) ∧ X (pre ++ [t]) W')) ∧ Keep52 W W')
    (l : List Fr) (v : Value) (hb : ∀ pre W, J pre W → W.cell? ⟨bx, 0, none⟩ = some v) (hr : FrRead w0 S v l) (W : World) (h0 : J [] W) :
    CallsIn Fence.wide 1 Tryz.prog 83 #[.func (.yield lb) #[] #[], .pointer (some ⟨bx, 0, none⟩)] W (TokEnd (toksP 1 l) J X) := by
  have hp := pass_any lb J X w0 S hJ1 hJ2 hY (fsz l + 1) l 1 v [] W (Nat.lt_succ_self _) (by omega) hr h0
  have HP := Lib.hid hp
  obtain ⟨a, c, _, _, rfl, _⟩ := hr
  have m0 := hb _ _ h0
  clear hp hb h0 hJ1 hJ2 hY
  refine callsIn_of_wp Tryz.func83 rfl trivial ?_ rfl
  simp only [Tryz.ntmps83, List.size_toArray, List.length_cons, List.length_nil, Nat.reduceAdd, Nat.reduceSub, Array.replicate_succ, Array.replicate_zero, List.push_toArray, List.append_toArray, List.nil_append, List.cons_append]
  gi_wp2_with fail
  refine ⟨trivial, (callsIn_wide.2 (callsIn_wide.1 HP.out)).mono ?_⟩
  rintro e W6 ⟨⟨rfl, hJ6⟩ | ⟨rfl, a, b, hab, hX6⟩, hkp6⟩
  · have HJ6 := Lib.hid hJ6
    clear hJ6 hkp6
    gi_wp2_with fail
    go_end0
    exact .inl ⟨rfl, by simpa using HJ6.out⟩
  · have HX6 := Lib.hid hX6
    have HAB := Lib.hid hab
    clear hX6 hkp6 hab
    gi_wp2_with fail
    go_end0
    exact .inr ⟨rfl, a, b, by simpa using HAB.out, HX6.out⟩

/-- **tokens** -/
theorem tokens_any (v : Value) (hv : ∃ a n c, v = .slice a n c) (w : World) : Calls Tryz.prog 52 #[v] w fun e W => e = .returned (.func (.func 83) #[] #[.pointer (some ⟨w.heap.size, 0, none⟩)]) ∧ W = w.alloc (.cells #[v] 25) := by
  have hmf : ∀ (fn : Fn) (first cap : Array Value) (w : World), (Instr.makeFunc fn first cap).run Tryz.prog w = .ok (.func fn first cap) w := fun _ _ _ _ => rfl
  obtain ⟨a, n, c, rfl⟩ := hv
  go_enter Tryz.func52, Tryz.ntmps52
  go_wp2_with fail
  go_ret
  exact ⟨rfl, rfl⟩

/-- How the body of a round may be left. -/
def bodyPostT (B : Nat) (I : List Tok → World → Prop) (Ix : Code → List Tok → World → Prop) (pre : List Tok) (W : World) : Exit → Act → World → Prop
  | .normal, _, W' => KeepsFrom B W W' ∧ Keep52 W W' ∧ I pre W'
  | .ret, _, W' => KeepsFrom B W W' ∧ Keep52 W W' ∧ Ix .ret pre W'
  | .exit id, _, W' => KeepsFrom B W W' ∧ Keep52 W W' ∧ Ix (.exit id) pre W'
  | .goto t, _, W' => KeepsFrom B W W' ∧ Keep52 W W' ∧ Ix (.goto t) pre W'
  | .panic _, _, _ => False
  | .outgrown, _, _ => False

def StableT (B : Nat) (I : List Tok → World → Prop) : Prop := ∀ pre, OwnFrom B (fun (_ : Unit) W => I pre W)

theorem keep52_put {W : World} {k : Nat} {o : Obj} (o' : Obj) (hk : W.heap[k]? = some o) (ho : o.isCells = false) : Keep52 W (W.putObj k o') := fun b cs hb => by
  by_cases e : b = k
  · subst e; rw [hk] at hb; cases hb; cases ho
  · exact (World.putObj_heap_other e).trans hb

theorem range_toks {g : Operand} {ps : Array Tmp} {assign body : Code} {Q : Exit → Act → World → Prop} {a : Act} {w : World} (S : Nat → Prop)
    (l : List Fr) (bx : Nat) (v : Value) (w0 : World) (hr : FrRead w0 S v l)
    (hg : a.eval g = .func (.func 83) #[] #[.pointer (some ⟨bx, 0, none⟩)]) (hps : ps.size = 1)
    (I : List Tok → World → Prop) (Ix : Code → List Tok → World → Prop)
    (hI1 : ∀ pre W, I pre W → Below w0.heap.size w0 W ∧ W.cell? ⟨bx, 0, none⟩ = some v) (hI2 : ∀ pre W W', I pre W → Below W.heap.size W W' → I pre W')
    (hI : StableT w.heap.size I) (hIx : ∀ c, StableT w.heap.size (Ix c)) (h0 : I [] w)
    (Ax : Tok → Act → World → Prop) (hAx : ∀ t a' W k o o', Ax t a' W → W.heap[k]? = some o → o.isCells = false → Ax t a' (W.putObj k o'))
    (hassign : ∀ (lb : Nat) (t : Tok) (W : World) (K : Act → World → Prop), (∀ a' W', Ax t a' W' → Below W.heap.size W W' → K a' W') →
      assign.wpIn (Fence.wide.inRound lb) 0 Tryz.prog (Exit.then K (fun _ _ _ => False)) { tmps := (ps.zip #[TokV t]).foldl (fun t (p, v) => t.setIfInBounds p v) a.tmps, defers := [] } W)
    (hbody : ∀ (lb : Nat) (pre : List Tok) (t : Tok) (a' : Act) (W : World), I pre W → Ax t a' W → body.wpIn (Fence.wide.inRound lb) 0 Tryz.prog (bodyPostT w.heap.size I Ix (pre ++ [t]) W) a' W)
    (hdone : ∀ (D : Nat) (W : World), w.heap.size ≤ D → I (toksP 1 l) W → W.heap[D]? = some (.deferred (some [])) → Q .normal { a with defers := { target := .collected D, args := #[] } :: a.defers } W)
    (hstop : ∀ (D : Nat) (c : Code) (pre rest : List Tok) (W : World), w.heap.size ≤ D → Ix c pre W → toksP 1 l = pre ++ rest → W.heap[D]? = some (.deferred (some [])) → c.wpIn Fence.wide 2 Tryz.prog Q { a with defers := { target := .collected D, args := #[] } :: a.defers } W) :
    (Code.rangeFunc g ps assign body).wpIn Fence.wide 2 Tryz.prog Q a w := by
  refine wpIn_rangeFunc ?_
  intro fn hfn
  obtain ⟨rec, hrec⟩ : ∃ rec : LoopState → Option Code → Loop, rec = fun st pe => { state := st, pending := pe, fn, tmps := a.tmps, params := ps, assign, body, defers := w.heap.size } := ⟨_, rfl⟩
  obtain ⟨W1, hW1⟩ : ∃ W1, (w.alloc (.deferred (some []))).alloc (.loop (rec .ready none)) = W1 := ⟨_, rfl⟩
  have hL1 : W1.heap[w.heap.size + 1]? = some (.loop (rec .ready none)) := by
    rw [← hW1]; have := World.alloc_heap_new (w.alloc (.deferred (some []))) (.loop (rec .ready none)); rwa [World.size_alloc] at this
  have hK1 : W1.heap[w.heap.size]? = some (.deferred (some [])) := by
    rw [← hW1]; exact (Below.heap_alloc _ _ _ (by simp)).trans (World.alloc_heap_new w _)
  have put : ∀ {J : List Tok → World → Prop}, StableT w.heap.size J → ∀ {pre W} (k : Nat) (o o' : Obj), J pre W → w.heap.size ≤ k → W.heap[k]? = some o → o.isCells = false → J pre (W.putObj k o') :=
    fun {J} hJ {pre W} k o o' h hk hl ho => (hJ pre).putObj (s := ()) o' h hk hl ho
  have alc : ∀ {J : List Tok → World → Prop}, StableT w.heap.size J → ∀ {pre W} (o : Obj), J pre W → J pre (W.alloc o) :=
    fun {J} hJ {pre W} o h => (hJ pre).alloc (s := ()) o h
  have hI1' : I [] W1 := by rw [← hW1]; exact alc hI _ (alc hI _ h0)
  refine ⟨w.heap.size + 1, [{ target := .collected w.heap.size, args := #[] }], W1, { target := .fn (.func 83) #[.pointer (some ⟨bx, 0, none⟩)], args := #[.func (.yield (w.heap.size + 1)) #[] #[]] }, W1, 83,
    #[.func (.yield (w.heap.size + 1)) #[] #[], .pointer (some ⟨bx, 0, none⟩)], W1, ?_, ?_, ?_, ?_, fun _ => by omega, ?_⟩
  · rw [← hW1, hrec]; exact run_enterLoop_outer _ _ _ _ _
  · simp only [resolve, hg]
    simp [go_sem]
  · intro f' _; trivial
  · simp [invoke, go_sem]
  · refine (tokens1_any (w.heap.size + 1) bx
      (fun pre W => I pre W ∧ W.heap[w.heap.size + 1]? = some (.loop (rec .ready none)) ∧ W.heap[w.heap.size]? = some (.deferred (some [])))
      (fun pre W => ∃ c, Ix c pre W ∧ W.heap[w.heap.size + 1]? = some (.loop (rec .done (some c))) ∧ W.heap[w.heap.size]? = some (.deferred (some [])))
      w0 S (fun pre W h => (hI1 pre W h.1).1)
      (fun pre W W' h hb => ⟨hI2 pre W W' h.1 hb, (hb.block _ (Array.getElem?_eq_some_iff.1 h.2.1).1).trans h.2.1, (hb.block _ (Array.getElem?_eq_some_iff.1 h.2.2).1).trans h.2.2⟩)
      ?_ l v (fun pre W h => (hI1 pre W h.1).2) hr W1 ⟨hI1', hL1, hK1⟩).mono ?_
    · rintro pre t W ⟨hi, hl, hk⟩
      have hlt : w.heap.size + 1 < W.heap.size := (Array.getElem?_eq_some_iff.1 hl).1
      have hy := run_yield (P := Tryz.prog) (args := #[TokV t]) hl (by rw [hrec]; exact hps.symm)
      rw [hrec] at hy
      refine ⟨fn, _, assign, body, hy, roundIn_of_wpIn hfn (hassign _ t W _ fun a2 W2 hax hb2 => ?_)⟩
      have hlA : W2.heap[w.heap.size + 1]? = some (.loop (rec .ready none)) := (hb2.block _ hlt).trans hl
      have hkA : W2.heap[w.heap.size]? = some (.deferred (some [])) := (hb2.block _ (by omega)).trans hk
      have hiA : I pre W2 := hI2 _ _ _ hi hb2
      have hltA : w.heap.size + 1 < W2.heap.size := (Array.getElem?_eq_some_iff.1 hlA).1
      refine ⟨_, run_beginRound hlA (by rw [hrec]), ?_⟩
      have hl2 : (W2.putObj (w.heap.size + 1) (.loop { rec .ready none with state := .busy })).heap[w.heap.size + 1]? = some (.loop { rec .ready none with state := .busy }) := World.putObj_heap_same hltA
      have hk2 : (W2.putObj (w.heap.size + 1) (.loop { rec .ready none with state := .busy })).heap[w.heap.size]? = some (.deferred (some [])) := (World.putObj_heap_other (by omega)).trans hkA
      have hkp2 : Keep52 W (W2.putObj (w.heap.size + 1) (.loop { rec .ready none with state := .busy })) := (Keep52.bl hb2).trans (keep52_put _ hlA rfl)
      refine wpIn_mono (hbody _ pre t a2 _ (put hI _ _ _ hiA (by omega) hlA rfl) (hAx _ _ _ _ _ _ hax hlA rfl)) ?_
      have fin : ∀ (jump : Option Code) (W3 : World), KeepsFrom w.heap.size (W2.putObj (w.heap.size + 1) (.loop { rec .ready none with state := .busy })) W3 →
          (Instr.endRound (w.heap.size + 1) jump).run Tryz.prog W3 = .ok (.bool jump.isNone) (W3.putObj (w.heap.size + 1) (.loop (rec (if jump.isNone then .ready else .done) jump))) ∧
          W3.heap[w.heap.size + 1]? = some (.loop { rec .ready none with state := .busy }) ∧
          (W3.putObj (w.heap.size + 1) (.loop (rec (if jump.isNone then .ready else .done) jump))).heap[w.heap.size + 1]? = some (.loop (rec (if jump.isNone then .ready else .done) jump)) ∧
          (W3.putObj (w.heap.size + 1) (.loop (rec (if jump.isNone then .ready else .done) jump))).heap[w.heap.size]? = some (.deferred (some [])) := fun jump W3 hk3 => by
        have hl3 := hk3.same _ _ (by omega) hl2 rfl
        have := run_endRound (P := Tryz.prog) jump hl3
        rw [hrec] at this ⊢
        exact ⟨this, by rw [hrec] at hl3; exact hl3, World.putObj_heap_same (Array.getElem?_eq_some_iff.1 hl3).1, (World.putObj_heap_other (by omega)).trans (hk3.same _ _ (Nat.le_refl _) hk2 rfl)⟩
      rintro e a3 W3 hp
      cases e with
      | normal =>
        obtain ⟨hk3, h52, hi3⟩ := hp
        obtain ⟨hr, hl3, hl4, hk4⟩ := fin none W3 hk3
        exact ⟨_, _, hr, .inl ⟨rfl, put hI _ _ _ hi3 (by omega) hl3 rfl, hl4, hk4⟩, (hkp2.trans h52).trans (keep52_put _ hl3 rfl)⟩
      | ret =>
        obtain ⟨hk3, h52, hi3⟩ := hp
        obtain ⟨hr, hl3, hl4, hk4⟩ := fin (some .ret) W3 hk3
        exact ⟨_, _, hr, .inr ⟨rfl, .ret, put (hIx _) _ _ _ hi3 (by omega) hl3 rfl, hl4, hk4⟩, (hkp2.trans h52).trans (keep52_put _ hl3 rfl)⟩
      | exit id =>
        obtain ⟨hk3, h52, hi3⟩ := hp
        obtain ⟨hr, hl3, hl4, hk4⟩ := fin (some (.exit id)) W3 hk3
        exact ⟨_, _, hr, .inr ⟨rfl, .exit id, put (hIx _) _ _ _ hi3 (by omega) hl3 rfl, hl4, hk4⟩, (hkp2.trans h52).trans (keep52_put _ hl3 rfl)⟩
      | goto t =>
        obtain ⟨hk3, h52, hi3⟩ := hp
        obtain ⟨hr, hl3, hl4, hk4⟩ := fin (some (.goto t)) W3 hk3
        exact ⟨_, _, hr, .inr ⟨rfl, .goto t, put (hIx _) _ _ _ hi3 (by omega) hl3 rfl, hl4, hk4⟩, (hkp2.trans h52).trans (keep52_put _ hl3 rfl)⟩
      | panic _ => exact hp.elim
      | outgrown => exact hp.elim
    · rintro e W3 (⟨rfl, hi, hl, hk⟩ | ⟨rfl, pre, rest, hq, c, hi, hl, hk⟩)
      · exact ⟨none, _, by have := run_endLoop (P := Tryz.prog) hl (by rw [hrec]; simp); rw [hrec] at this; exact this, hdone _ _ (Nat.le_refl _) (put hI _ _ _ hi (by omega) hl rfl) ((World.putObj_heap_other (by omega)).trans hk)⟩
      · exact ⟨some c, _, by have := run_endLoop (P := Tryz.prog) hl (by rw [hrec]; simp); rw [hrec] at this; exact this, hstop _ c pre rest _ (Nat.le_refl _) (put (hIx _) _ _ _ hi (by omega) hl rfl) hq ((World.putObj_heap_other (by omega)).trans hk)⟩
end Go.Proofs.YtopbmndjnjnmcaaGreatDoor

/- (G4) -/
/- Package fragment: Size. -/
namespace Go.Proofs.YtopbmndjnjnmcaaGreatDoor
open Go.RowKit Lx

attribute [local go_sem] Oper.semAt_some

def sizeP (l : List Fr) : Nat := min (toksP 1 l).length 6001

/-- What Size holds. -/
structure SzI (w : World) (v : Value) (n : Nat) (W : World) : Prop where
  box : Boxed W w.heap.size 3 (.int .i64 n)
  lst : Boxed W (w.heap.size + 1) 25 v
  bel : Below w.heap.size w W
theorem SzI.grown {w : World} {v : Value} {n : Nat} {W W' : World} {row : Option Nat} (h : SzI w v n W) (hg : W.grownBy W' row) (hrow : ∀ k, row = some k → w.heap.size + 2 ≤ k) : SzI w v n W' :=
  ⟨h.box.kept hg (fun e => by have := hrow _ e.symm; omega), h.lst.kept hg (fun e => by have := hrow _ e.symm; omega), h.bel.grown hg h.bel.size (fun k e => by have := hrow k e; omega)⟩
theorem SzI.blw {w : World} {v : Value} {n : Nat} {W W' : World} (h : SzI w v n W) (hb : Below W.heap.size W W') : SzI w v n W' := h.grown (grown_bl hb none) (fun k e => by cases e)
theorem SzI.set {w : World} {v : Value} {n : Nat} {W : World} (h : SzI w v n W) (m : Nat) : SzI w v m (W.setCell ⟨w.heap.size, 0, none⟩ (.int .i64 m)) :=
  ⟨h.box.set _, h.lst.other (by omega) _, h.bel.setCell (Nat.le_refl _) _⟩

set_option maxRecDepth 100000 in
set_option maxHeartbeats 4000000 in
theorem size_in (S : Nat → Prop) (l : List Fr) (v : Value) (w : World) (hr : FrRead w S v l) :
    CallsIn Fence.wide 2 Tryz.prog 21 #[v] w fun e W => e = .returned (.int .i64 (sizeP l : Nat)) ∧ Below w.heap.size w W := by
  have HR := Lib.hid hr
  obtain ⟨a, c, _, _, rfl, ⟨hm, _⟩, _⟩ := hr
  refine callsIn_of_wp_marks Tryz.func21 rfl trivial ?_ rfl
  simp only [Tryz.ntmps21, List.size_toArray, List.length_cons, List.length_nil, Nat.reduceAdd, Nat.reduceSub, Array.replicate_succ, Array.replicate_zero, List.push_toArray, List.append_toArray, List.nil_append, List.cons_append]
  have h0 : SzI w (.slice a l.length c) 0 ((w.alloc (.cells #[.int .i64 0] 3)).alloc (.cells #[.slice a l.length c] 25)) := by
    refine ⟨(Boxed.new w 3 (.int .i64 0)).alloc _, ?_, ((Below.refl _ w).alloc (Nat.le_refl _) _).alloc (by simp) _⟩
    have := Boxed.new (w.alloc (.cells #[.int .i64 0] 3)) 25 (.slice a l.length c)
    rwa [World.size_alloc] at this
  have H0 := Lib.hid h0
  clear h0
  gi_wp2_with fail
  refine ⟨trivial, (callsIn_wide.2 (tokens_any _ ⟨_, _, _, rfl⟩ _)).mono ?_⟩
  rintro e W1 ⟨rfl, rfl⟩
  gi_wp2_with fail
  refine range_toks S l (w.heap.size + 1) _ w HR.out rfl rfl (fun pre W => pre.length ≤ 6000 ∧ SzI w (.slice a l.length c) pre.length W) (fun c' pre W => c' = .exit 0 ∧ pre.length = 6001 ∧ SzI w (.slice a l.length c) 6001 W)
    (fun pre W h => ⟨h.2.bel, h.2.lst.cell⟩) (fun pre W W' h hb => ⟨h.1, h.2.blw hb⟩) ?stab ?stabx ⟨by simp, H0.out⟩
    (fun t a' _ => a' = { tmps := #[.slice a l.length c, undef, .int .i64 0, .pointer (some ⟨w.heap.size, 0, none⟩), .slice a l.length c, .func (.func 83) #[] #[.pointer (some ⟨w.heap.size + 1, 0, none⟩)], TokV t, undef, undef, undef, undef, undef], defers := [] })
    (fun t a' W k o o' h _ _ => h) ?assign ?body ?done ?stop
  case stab => rintro pre _ W W' row ⟨h1, h2⟩ hg hrow; exact ⟨h1, h2.grown hg (fun k e => by have := (hrow k e).1; simpa using this)⟩
  case stabx => rintro c' pre _ W W' row ⟨rfl, h1, h2⟩ hg hrow; exact ⟨rfl, h1, h2.grown hg (fun k e => by have := (hrow k e).1; simpa using this)⟩
  case assign =>
    intro lb t W K hK
    simp only [TokV, tokC] at hK ⊢
    gi_wp2
    exact hK _ _ (by simp) (Below.refl _ _)
  case body =>
    rintro lb pre t a' W ⟨h1, h2⟩ rfl
    have H2 := Lib.hid h2
    have c1 := h2.box.cell
    have f1 := h2.box.frozen
    have hs := Lib.hid (h2.set (pre.length + 1))
    clear h2
    have hg := grownBy_setCell' W w.heap.size (.int .i64 ((pre.length + 1 : Nat) : Int))
    have hkf : KeepsFrom ((w.alloc (.cells #[.int .i64 0] 3)).alloc (.cells #[.slice a l.length c] 25)).heap.size W (W.setCell ⟨w.heap.size, 0, none⟩ (.int .i64 ((pre.length + 1 : Nat) : Int))) := KeepsFrom.of_grownBy hg (fun j e => by cases e; simp only [World.size_alloc]; omega)
    have hk5 : Keep52 W (W.setCell ⟨w.heap.size, 0, none⟩ (.int .i64 ((pre.length + 1 : Nat) : Int))) := fun b cs hb => by
      have hne : b ≠ w.heap.size := fun e => by
        subst e
        have h1 := H2.out.box
        unfold Boxed at h1
        rw [hb] at h1
        simp at h1
      exact (set_ne _ _ _ _ hne).trans hb
    have HKF := Lib.hid hkf
    have HK5 := Lib.hid hk5
    have hlen : (pre ++ [t]).length = pre.length + 1 := by simp
    have HLEN := Lib.hid hlen
    clear hg hkf hk5 hlen
    obtain ⟨n, hn⟩ : ∃ n, pre.length = n := ⟨_, rfl⟩
    simp only [hn] at h1 c1 hs HKF HK5 HLEN
    have hw1 : IntKind.i64.wrap ((n : Int) + 1) = ((n + 1 : Nat) : Int) := by rw [IntWalk.i64_in _ (by omega)]; omega
    unfold TokV tokC
    clear hn
    by_cases h6 : n = 6000
    · have d1 : decide (((n + 1 : Nat) : Int) > 6000) = true := decide_eq_true (by omega)
      have H6 := Lib.hid h6
      have h6' : 6000 ≤ n := by omega
      clear h6
      gi_wp2_with fail
      exact ⟨HKF.out, HK5.out, rfl, by rw [HLEN.out, H6.out], by have := hs.out; rw [H6.out] at this ⊢; exact this⟩
    · have d1 : decide (((n + 1 : Nat) : Int) > 6000) = false := decide_eq_false (by omega)
      gi_wp2_with fail
      exact ⟨HKF.out, HK5.out, by rw [HLEN.out]; omega, by rw [HLEN.out]; exact hs.out⟩
  case done =>
    rintro D W hD ⟨h1, h2⟩ hK
    have c1 := h2.box.cell
    have H2 := Lib.hid h2
    clear h2
    gi_wp2
    have hsz : sizeP l = (toksP 1 l).length := by unfold sizeP; omega
    refine ⟨by simp, .inl ⟨D, _, rfl, run_takeDeferred hK, ?_⟩⟩
    exact ⟨_, results_tmp rfl _ _ _, by rw [hsz]; rfl, H2.out.bel.trans (belowK_b (w := w) (Nat.le_refl _) _ D _ _ (by simp only [World.size_alloc] at hD; omega) hK rfl rfl)⟩
  case stop =>
    rintro D c' pre rest W hD ⟨rfl, h1, h2⟩ hq hK
    have c1 := h2.box.cell
    have H2 := Lib.hid h2
    clear h2
    gi_wp2
    have hsz : sizeP l = 6001 := by unfold sizeP; rw [hq, List.length_append]; omega
    refine ⟨by simp, .inl ⟨D, _, rfl, run_takeDeferred hK, ?_⟩⟩
    exact ⟨_, results_tmp rfl _ _ _, by rw [hsz]; rfl, H2.out.bel.trans (belowK_b (w := w) (Nat.le_refl _) _ D _ _ (by simp only [World.size_alloc] at hD; omega) hK rfl rfl)⟩

/-- **Size** -/
theorem size_any (S : Nat → Prop) (l : List Fr) (v : Value) (w : World) (hr : FrRead w S v l) :
    Calls Tryz.prog 21 #[v] w fun e W => e = .returned (.int .i64 (sizeP l : Nat)) ∧ Below w.heap.size w W :=
  (callsIn_wide (n := 2)).1 (size_in S l v w hr)
end Go.Proofs.YtopbmndjnjnmcaaGreatDoor

/- (G5) -/
/- Package fragment: Depth. -/
namespace Go.Proofs.YtopbmndjnjnmcaaGreatDoor
open Go.RowKit Lx Go.Sort

attribute [local go_sem] Oper.semAt_some

/-- The depth of the deepest group, but no more than a bound, and what has been found so far. -/
def depF : Nat → List Fr → Nat → Nat
  | _, [], acc => acc
  | most, .mk _ op ks :: r, acc => if acc = most then acc else depF most r (if op.toList = [] then acc else max acc (1 + depF (most - 1) ks 0))
theorem depF_cons (most : Nat) (f : Fr) (r : List Fr) (acc : Nat) : depF most (f :: r) acc = if acc = most then acc else depF most r (if f.op.toList = [] then acc else max acc (1 + depF (most - 1) f.kids 0)) := by
  cases f; rw [depF]; rfl
theorem depF_stop (most : Nat) : ∀ r : List Fr, depF most r most = most
  | [] => by rw [depF]
  | f :: r => by rw [depF_cons, if_pos rfl]
theorem depF_le : ∀ (n : Nat) (l : List Fr) (most acc : Nat), fsz l < n → acc ≤ most → depF most l acc ≤ most
  | 0, _, _, _, h, _ => absurd h (Nat.not_lt_zero _)
  | n + 1, [], most, acc, _, ha => by rw [depF]; exact ha
  | n + 1, .mk t op ks :: r, most, acc, hn, ha => by
    rw [fsz] at hn
    rw [depF]
    split
    · exact ha
    · rename_i hne
      refine depF_le n r most _ (by omega) ?_
      split
      · exact ha
      · have := depF_le n ks (most - 1) 0 (by omega) (Nat.zero_le _)
        omega
theorem depF_drop (most : Nat) {l : List Fr} {k : Nat} {f : Fr} (h : l[k]? = some f) (acc : Nat) : depF most (l.drop k) acc = if acc = most then acc else depF most (l.drop (k + 1)) (if f.op.toList = [] then acc else max acc (1 + depF (most - 1) f.kids 0)) := by
  obtain ⟨h1, h2⟩ := List.getElem?_eq_some_iff.1 h
  rw [List.drop_eq_getElem_cons h1, h2, depF_cons]
def depthP (l : List Fr) : Nat := depF 101 l 0

set_option maxRecDepth 100000 in
set_option maxHeartbeats 4000000 in
/-- **depth** -/
theorem depth_any (S : Nat → Prop) : ∀ (n : Nat) (l : List Fr) (most : Nat) (v : Value) (w : World), fsz l < n → most ≤ 200 → FrRead w S v l →
    Calls Tryz.prog 54 #[v, .int .i64 most] w fun e W => e = .returned (.int .i64 (depF most l 0 : Nat)) ∧ Below w.heap.size w W := by
  intro n
  induction n with
  | zero => intro l most v w h; omega
  | succ n ih =>
    intro l most v w hn hmo hr
    obtain ⟨va, vc, vg, vo, rfl, ⟨hm1, hm2⟩, ha, hat⟩ := hr
    have HAT := Lib.hid hat
    have HA := Lib.hid ha
    unfold maxLen at hm1
    obtain ⟨res, hres⟩ : ∃ res, depF most l 0 = res := ⟨_, rfl⟩
    rw [hres]
    have HRS := Lib.hid hres
    clear hat ha hres
    go_enter Tryz.func54, Tryz.ntmps54
    go_wp2_with fail
    go_loopw [5, 10] (fun y x wr => ∃ (k acc : Nat), k ≤ l.length ∧ acc ≤ most ∧ y = .int .i64 acc ∧ x = .int .i64 k ∧ Hid (res = depF most (l.drop k) acc) ∧ Hid (Below w.heap.size w wr)) (fun _ x _ => l.length - (intOf x).toNat)
    case atStart => exact ⟨0, 0, by omega, by omega, rfl, rfl, Lib.hid HRS.out.symm, Lib.hid (Below.refl _ _)⟩
    case round =>
      obtain ⟨k, acc, hk, hacc, rfl, rfl, HN, HB⟩ := hrel
      by_cases hlt : k < l.length
      · obtain ⟨f, hf⟩ : ∃ f, l[k]? = some f := ⟨_, List.getElem?_eq_getElem hlt⟩
        have hva : va = some ⟨vg, vo, none⟩ := HA.out (by intro h; rw [h] at hlt; simp at hlt)
        subst hva
        obtain ⟨kv, hs, hg, c0, c1, c2, c3, c4, c5, c6, hkr⟩ := HAT.out.get hf
        obtain ⟨ka, kc, hkv⟩ : ∃ a c, kv = .slice a f.kids.length c := by obtain ⟨a, c, _, _, h, _⟩ := hkr; exact ⟨a, c, h⟩
        subst hkv
        have m0 := (HB.out.cell (p := ⟨vg, vo + k * 7, none⟩) hg).trans c0
        have m1 := (HB.out.cell (p := ⟨vg, vo + k * 7 + 1, none⟩) hg).trans c1
        have m2 := (HB.out.cell (p := ⟨vg, vo + k * 7 + 2, none⟩) hg).trans c2
        have m3 := (HB.out.cell (p := ⟨vg, vo + k * 7 + 3, none⟩) hg).trans c3
        have m4 := (HB.out.cell (p := ⟨vg, vo + k * 7 + 4, none⟩) hg).trans c4
        have m5 := (HB.out.cell (p := ⟨vg, vo + k * 7 + 5, none⟩) hg).trans c5
        have m6 := (HB.out.cell (p := ⟨vg, vo + k * 7 + 6, none⟩) hg).trans c6
        have hba := (Below.refl wr.heap.size wr).alloc (Nat.le_refl _) (.cells (frC f.tok f.op (.slice ka f.kids.length kc)).toArray 52)
        have hst := HN.out
        rw [depF_drop most hf] at hst
        have hfn : fsz f.kids < n := by have := fsz_kids hf; omega
        have HBA := Lib.hid (HB.out.trans (hba.mono HB.out.size))
        have hkw := (hkr.bl (HB.out)).bl hba
        have hle := depF_le _ f.kids (most - 1) 0 hfn (Nat.zero_le _)
        have k1 : (k : Int) < (l.length : Int) := by omega
        have HST := Lib.hid hst
        have HKW := Lib.hid hkw
        clear c0 c1 c2 c3 c4 c5 c6 hkr hs hba hst hkw hf
        unfold frC at HBA HKW
        cases e0 : ((acc : Int) == (most : Int))
        · have hne : ¬ acc = most := by intro h; rw [h] at e0; simp at e0
          have hs1 := HST.out
          rw [if_neg hne] at hs1
          have HS1 := Lib.hid hs1
          clear hs1
          cases e1 : (f.op.toList == [])
          · have e2 : f.op.toList.isEmpty = false := by rw [← e1]; cases f.op.toList <;> rfl
            have hop : ¬ f.op.toList = [] := by intro h; rw [h] at e1; simp at e1
            have hih := ih f.kids (most - 1) _ _ hfn (by omega) HKW.out
            rw [show ((most - 1 : Nat) : Int) = (most : Int) - 1 by omega] at hih
            have HIH := Lib.hid hih
            obtain ⟨dk, hdk⟩ : ∃ dk, depF (most - 1) f.kids 0 = dk := ⟨_, rfl⟩
            have hs2 := HS1.out
            rw [if_neg hop, hdk] at hs2
            rw [hdk] at hle HIH
            have HS2 := Lib.hid hs2
            have hw1 : IntKind.i64.wrap ((most : Int) - 1) = (most : Int) - 1 := by rw [IntWalk.i64_in _ (by omega)]
            clear hih hs2 hdk hop
            go_wp2_with fail
            go_at_call 54
            refine HIH.out.mono ?_
            rintro e W5 ⟨rfl, hb5⟩
            have HB5 := Lib.hid (HBA.out.trans (hb5.mono HBA.out.size))
            clear hb5
            go_wp2_with fail
            go_roundw
            case rel => exact ⟨k + 1, max acc (1 + dk), by omega, by omega, congrArg (Value.int IntKind.i64) (by omega), rfl, HS2, HB5⟩
            case measure => simp [intOf]; omega
          · have e2 : f.op.toList.isEmpty = true := by rw [← e1]; cases f.op.toList <;> rfl
            have hop : f.op.toList = [] := by simpa using e1
            have hs2 := HS1.out
            rw [if_pos hop] at hs2
            have HS2 := Lib.hid hs2
            clear hs2 hop
            go_wp2_with fail
            go_roundw
            case rel => exact ⟨k + 1, acc, by omega, hacc, rfl, rfl, HS2, HBA⟩
            case measure => simp [intOf]; omega
        · have he : acc = most := by have : (acc : Int) = most := by simpa using e0
                                     omega
          have hs1 := HST.out
          rw [if_pos he] at hs1
          subst hs1
          clear he
          go_wp2_with fail
          go_ret
          exact ⟨rfl, HBA.out⟩
      · obtain rfl : k = l.length := by omega
        have hst := HN.out
        rw [List.drop_length, depF] at hst
        subst hst
        go_wp2_with fail
        go_ret
        exact ⟨rfl, HB.out⟩

/-- **Depth** -/
theorem Depth_any (S : Nat → Prop) (l : List Fr) (v : Value) (w : World) (hr : FrRead w S v l) :
    Calls Tryz.prog 23 #[v] w fun e W => e = .returned (.int .i64 (depthP l : Nat)) ∧ Below w.heap.size w W := by
  have hd := depth_any S (fsz l + 1) l 101 v w (Nat.lt_succ_self _) (by omega) hr
  have HD := Lib.hid hd
  obtain ⟨a, c, _, _, rfl, _⟩ := hr
  clear hd
  go_enter Tryz.func23, Tryz.ntmps23
  go_wp2_with fail
  go_at_call 54
  refine HD.out.mono ?_
  rintro e W ⟨rfl, hb⟩
  go_wp2_with fail
  go_ret
  exact ⟨rfl, hb⟩
end Go.Proofs.YtopbmndjnjnmcaaGreatDoor

/- (F4) -/
/- Package fragment: whether a sight is among others, and stopsAt. -/
namespace Go.Proofs.YtopbmndjnjnmcaaGreatDoor
open Go.RowKit Lx Go.Sort

attribute [local go_sem] Oper.semAt_some
attribute [local go_sem ↓] sg_neq sg_eql sg_guard

def sgHas (L : List (Int × ByteArray)) (k : Int) (x : ByteArray) : Bool := L.any fun p => (k == p.1) && (x.toList == p.2.toList)
theorem sgHas_drop {L : List (Int × ByteArray)} {j : Nat} {p : Int × ByteArray} (h : L[j]? = some p) (k : Int) (x : ByteArray) : sgHas (L.drop j) k x = (((k == p.1) && (x.toList == p.2.toList)) || sgHas (L.drop (j + 1)) k x) := by
  obtain ⟨hj, rfl⟩ := List.getElem?_eq_some_iff.1 h
  rw [List.drop_eq_getElem_cons hj]
  rfl

set_option maxRecDepth 100000 in
set_option maxHeartbeats 4000000 in
/-- **slices.Index** of sights -/
theorem sgIndex_any (L : List (Int × ByteArray)) (g c : Nat) (k : Int) (x : ByteArray) (hL : L.length ≤ 100) (w : World) (hg : g < w.heap.size)
    (hcells : ∀ j p, L[j]? = some p → w.cell? ⟨g, j * 2, none⟩ = some (.int .i64 p.1) ∧ w.cell? ⟨g, j * 2 + 1, none⟩ = some (.string p.2)) :
    Calls Tryz.prog 155 #[.slice (some ⟨g, 0, none⟩) L.length c, .agg #[.int .i64 k, .string x]] w fun e W => (∃ i : Int, e = .returned (.int .i64 i) ∧ decide (0 ≤ i) = sgHas L k x) ∧ Below w.heap.size w W := by
  have HC := Lib.hid hcells
  have hb : Below w.heap.size w (w.alloc (.cells #[.int .i64 k, .string x] 157)) := (Below.refl w.heap.size w).alloc (Nat.le_refl _) _
  have HB0 := Lib.hid hb
  have HX := Lib.hid (heap_alloc_new w (.cells #[.int .i64 k, .string x] 157))
  obtain ⟨q, hq⟩ : ∃ q, sgHas L k x = q := ⟨_, rfl⟩
  rw [hq]
  have HQ := Lib.hid hq
  clear hq hcells hb
  go_enter Tryz.func155, Tryz.ntmps155
  go_wp2_with fail
  go_loopw [8] (fun y wr => ∃ j : Nat, j ≤ L.length ∧ y = .int .i64 j ∧ Hid (q = sgHas (L.drop j) k x) ∧ Hid (Below w.heap.size w wr) ∧ Hid (wr.heap[w.heap.size]? = some (.cells #[.int .i64 k, .string x] 157 (0, 0)))) (fun y _ => L.length - (intOf y).toNat)
  case atStart => exact ⟨0, by omega, rfl, Lib.hid HQ.out.symm, HB0, HX⟩
  case round =>
    obtain ⟨j, hj, rfl, HN, HB, HXr⟩ := hrel
    by_cases hlt : j < L.length
    · obtain ⟨⟨k', x'⟩, hp⟩ : ∃ p, L[j]? = some p := ⟨_, List.getElem?_eq_getElem hlt⟩
      obtain ⟨c0, c1⟩ := HC.out j _ hp
      simp only at c0 c1
      have m0 : wr.cell? ⟨g, j * 2, none⟩ = some (.int .i64 k') := (HB.out.cell (p := ⟨g, _, none⟩) hg).trans c0
      have m1 : wr.cell? ⟨g, j * 2 + 1, none⟩ = some (.string x') := (HB.out.cell (p := ⟨g, _, none⟩) hg).trans c1
      have n0 : wr.cell? ⟨w.heap.size, 0, none⟩ = some (.int .i64 k) := by rw [cell_of_row _ _ _ _ _ _ HXr.out]; rfl
      have n1 : wr.cell? ⟨w.heap.size, 1, none⟩ = some (.string x) := by rw [cell_of_row _ _ _ _ _ _ HXr.out]; rfl
      have hst := HN.out
      rw [sgHas_drop hp] at hst
      have HST := Lib.hid hst
      clear hst c0 c1
      cases he : ((k == k') && (x.toList == x'.toList))
      · go_wp2_with fail
        go_region_held3 (fun w' => w'.cell? ⟨g, j * 2, none⟩ = some (.int .i64 k') ∧ w'.cell? ⟨g, j * 2 + 1, none⟩ = some (.string x') ∧ w'.cell? ⟨w.heap.size, 0, none⟩ = some (.int .i64 k) ∧ w'.cell? ⟨w.heap.size, 1, none⟩ = some (.string x)) (first | go_keep) (fail)
        go_wp2_with fail
        go_roundw
        case rel => exact ⟨j + 1, by omega, rfl, Lib.hid (by rw [HST.out, he, Bool.false_or]), Lib.hid HB.out.drew, HXr⟩
        case measure => simp [intOf]; omega
      · go_wp2_with fail
        go_region_held3 (fun w' => w'.cell? ⟨g, j * 2, none⟩ = some (.int .i64 k') ∧ w'.cell? ⟨g, j * 2 + 1, none⟩ = some (.string x') ∧ w'.cell? ⟨w.heap.size, 0, none⟩ = some (.int .i64 k) ∧ w'.cell? ⟨w.heap.size, 1, none⟩ = some (.string x)) (first | go_keep) (fail)
        go_wp2_with fail
        go_ret
        exact ⟨⟨j, rfl, by rw [HST.out, he, Bool.true_or]; simp⟩, HB.out.drew⟩
    · obtain rfl : j = L.length := by omega
      have hqt : q = false := by rw [HN.out, List.drop_length]; rfl
      subst hqt
      go_wp2_with fail
      go_ret
      exact ⟨⟨-1, rfl, rfl⟩, HB.out⟩

set_option maxRecDepth 100000 in
/-- **slices.Contains** of sights -/
theorem sgContains_any (L : List (Int × ByteArray)) (g c : Nat) (k : Int) (x : ByteArray) (hL : L.length ≤ 100) (w : World) (hg : g < w.heap.size)
    (hcells : ∀ j p, L[j]? = some p → w.cell? ⟨g, j * 2, none⟩ = some (.int .i64 p.1) ∧ w.cell? ⟨g, j * 2 + 1, none⟩ = some (.string p.2)) :
    Calls Tryz.prog 139 #[.slice (some ⟨g, 0, none⟩) L.length c, .agg #[.int .i64 k, .string x]] w fun e W => e = .returned (.bool (sgHas L k x)) ∧ Below w.heap.size w W := by
  have hb : Below w.heap.size w (w.alloc (.cells #[.int .i64 k, .string x] 157)) := (Below.refl w.heap.size w).alloc (Nat.le_refl _) _
  have hcells' : ∀ j p, L[j]? = some p → (w.alloc (.cells #[.int .i64 k, .string x] 157)).cell? ⟨g, j * 2, none⟩ = some (.int .i64 p.1) ∧ (w.alloc (.cells #[.int .i64 k, .string x] 157)).cell? ⟨g, j * 2 + 1, none⟩ = some (.string p.2) := fun j p hp =>
    ⟨(hb.cell (p := ⟨g, _, none⟩) hg).trans (hcells j p hp).1, (hb.cell (p := ⟨g, _, none⟩) hg).trans (hcells j p hp).2⟩
  have HC := Lib.hid hcells'
  have HB0 := Lib.hid hb
  have hg' : g < (w.alloc (.cells #[.int .i64 k, .string x] 157)).heap.size := by rw [World.size_alloc]; omega
  clear hcells hcells' hb
  go_enter Tryz.func139, Tryz.ntmps139
  go_wp2_with fail
  go_at_call 155
  refine (sgIndex_any L g c k x hL _ hg' HC.out).mono ?_
  rintro e w9 ⟨⟨i, rfl, hi⟩, hb9⟩
  have hb0 := HB0.out.trans (hb9.mono HB0.out.size)
  clear hb9
  go_wp2_with fail
  go_ret
  exact ⟨congrArg (fun b => Ending.returned (.bool b)) (by rw [← hi]), hb0⟩

set_option maxRecDepth 100000 in
/-- **among** of sights -/
theorem sgAmong_any (L : List (Int × ByteArray)) (g c : Nat) (k : Int) (x : ByteArray) (hL : L.length ≤ 100) (w : World) (hg : g < w.heap.size)
    (hcells : ∀ j p, L[j]? = some p → w.cell? ⟨g, j * 2, none⟩ = some (.int .i64 p.1) ∧ w.cell? ⟨g, j * 2 + 1, none⟩ = some (.string p.2)) :
    Calls Tryz.prog 124 #[.agg #[.int .i64 k, .string x], .slice (some ⟨g, 0, none⟩) L.length c] w fun e W => e = .returned (.bool (sgHas L k x)) ∧ Below w.heap.size w W := by
  have hb : Below w.heap.size w (w.alloc (.cells #[.int .i64 k, .string x] 157)) := (Below.refl w.heap.size w).alloc (Nat.le_refl _) _
  have hcells' : ∀ j p, L[j]? = some p → (w.alloc (.cells #[.int .i64 k, .string x] 157)).cell? ⟨g, j * 2, none⟩ = some (.int .i64 p.1) ∧ (w.alloc (.cells #[.int .i64 k, .string x] 157)).cell? ⟨g, j * 2 + 1, none⟩ = some (.string p.2) := fun j p hp =>
    ⟨(hb.cell (p := ⟨g, _, none⟩) hg).trans (hcells j p hp).1, (hb.cell (p := ⟨g, _, none⟩) hg).trans (hcells j p hp).2⟩
  have HC := Lib.hid hcells'
  have HB0 := Lib.hid hb
  have hg' : g < (w.alloc (.cells #[.int .i64 k, .string x] 157)).heap.size := by rw [World.size_alloc]; omega
  clear hcells hcells' hb
  go_enter Tryz.func124, Tryz.ntmps124
  go_wp2_with fail
  go_at_call 139
  refine (sgContains_any L g c k x hL _ hg' HC.out).mono ?_
  rintro e w9 ⟨rfl, hb9⟩
  have hb0 := HB0.out.trans (hb9.mono HB0.out.size)
  clear hb9
  go_wp2_with fail
  go_ret
  exact ⟨rfl, hb0⟩

def stopL : List (Int × ByteArray) := [(5, bs1 59), (5, bs1 44), (5, bs1 41), (5, bs1 93), (5, bs1 125), (1, tEnd)]
def stopC : Array Value := #[.int .i64 5, .string ⟨#[59]⟩, .int .i64 5, .string ⟨#[44]⟩, .int .i64 5, .string ⟨#[41]⟩, .int .i64 5, .string ⟨#[93]⟩, .int .i64 5, .string ⟨#[125]⟩, .int .i64 1, .string ⟨#[101, 110, 100]⟩]
theorem bs1_list (b : UInt8) : (bs1 b).toList = [b] := by rw [toList_data]; rfl
theorem isStop_has (t : Tok) : sgHas stopL t.kind t.text = isStop t := by
  simp only [sgHas, stopL, List.any_cons, List.any_nil, Bool.or_false, isStop, isSg, isNm, bs1_list]
theorem stop_cells {W : World} {g : Nat} (h : W.heap[g]? = some (.cells stopC 157 (0, 0))) : ∀ j p, stopL[j]? = some p → W.cell? ⟨g, j * 2, none⟩ = some (.int .i64 p.1) ∧ W.cell? ⟨g, j * 2 + 1, none⟩ = some (.string p.2) := by
  intro j p hp
  rw [cell_of_row _ _ _ _ _ _ h, cell_of_row _ _ _ _ _ _ h]
  match j, hp with
  | 0, hp => cases hp; exact ⟨rfl, rfl⟩
  | 1, hp => cases hp; exact ⟨rfl, rfl⟩
  | 2, hp => cases hp; exact ⟨rfl, rfl⟩
  | 3, hp => cases hp; exact ⟨rfl, rfl⟩
  | 4, hp => cases hp; exact ⟨rfl, rfl⟩
  | 5, hp => cases hp; exact ⟨rfl, rfl⟩
  | n + 6, hp => simp [stopL] at hp

theorem stop_new (w : World) : (∀ j p, stopL[j]? = some p → (w.alloc (.cells stopC 157)).cell? ⟨w.heap.size, j * 2, none⟩ = some (.int .i64 p.1) ∧ (w.alloc (.cells stopC 157)).cell? ⟨w.heap.size, j * 2 + 1, none⟩ = some (.string p.2)) := stop_cells (heap_alloc_new w _)

set_option maxRecDepth 100000 in
set_option maxHeartbeats 2000000 in
/-- **stopsAt** -/
theorem stopsAt_any (ts : List Tok) (vt : Value) (r i : Nat) (x : Int) (hx : x = (i : Int)) (w : World) (h0 : w.cell? ⟨r, 0, none⟩ = some vt) (hr : TokRead w vt ts) :
    Calls Tryz.prog 102 #[.pointer (some ⟨r, 0, none⟩), .int .i64 x] w fun e W => e = .returned (.bool (stopsAt ts i)) ∧ Below w.heap.size w W := by
  subst hx
  have HR := Lib.hid hr
  obtain ⟨a, c, rfl, ⟨hn, hc⟩, hrr⟩ := hr
  have HRR := Lib.hid hrr
  clear hrr
  by_cases hge : ts.length ≤ i
  · have hq : stopsAt ts i = true := by unfold stopsAt; rw [List.getElem?_eq_none hge]
    rw [hq]
    have hd : decide ((i : Int) ≥ (ts.length : Int)) = true := by simp; omega
    go_enter Tryz.func102, Tryz.ntmps102
    go_wp2_with fail
    go_ret
    exact ⟨rfl, Below.refl _ _⟩
  · obtain ⟨t, ht⟩ : ∃ t, ts[i]? = some t := ⟨_, List.getElem?_eq_getElem (by omega)⟩
    have hq : stopsAt ts i = isStop t := by unfold stopsAt; rw [ht]
    rw [hq]
    have hd : decide ((i : Int) ≥ (ts.length : Int)) = false := by simp; omega
    go_enter Tryz.func102, Tryz.ntmps102
    go_wp2_with fail
    go_at_call 123
    refine (see_any ts _ r i t ht _ rfl _ h0 HR.out).mono ?_
    rintro e w9 ⟨rfl, hb9⟩
    have hb1 := hb9.alloc hb9.size (.cells stopC 157)
    have HB := Lib.hid hb1
    have hcs := stop_new w9
    have HC := Lib.hid hcs
    have hl : w9.heap.size < (w9.alloc (.cells stopC 157)).heap.size := by rw [World.size_alloc]; omega
    clear hb9 hb1 hcs
    go_wp2_with fail
    go_at_call 124
    refine (sgAmong_any stopL w9.heap.size 6 t.kind t.text (by decide) _ hl HC.out).mono ?_
    rintro e w10 ⟨rfl, hb10⟩
    have hb2 := HB.out.trans (hb10.mono HB.out.size)
    have HB2 := Lib.hid hb2
    clear hb10 hb2
    go_wp2_with fail
    go_ret
    exact ⟨by rw [isStop_has]; rfl, HB2.out⟩
end Go.Proofs.YtopbmndjnjnmcaaGreatDoor

/- (F5) -/
/- Package fragment: among, Words and areRight. -/
namespace Go.Proofs.YtopbmndjnjnmcaaGreatDoor
open Go.RowKit Lx Go.Sort

attribute [local go_sem] Oper.semAt_some

/-- **slices.Contains** of strings -/
theorem contains_any (v : Value) (zs : List ByteArray) (x : ByteArray) (hz : zs.length ≤ 1000) (w : World) (hr : StrRead w v zs) :
    Calls Tryz.prog 118 #[v, .string x] w fun e W => e = .returned (.bool (Lib.containsS zs x)) ∧ W = w := by
  obtain ⟨a, c, rfl, _, hr⟩ := hr
  rcases Nat.eq_zero_or_pos zs.length with h0 | h0
  · obtain rfl : zs = [] := List.eq_nil_of_length_eq_zero h0
    exact Tryz.slices_Contains_string_empty a c x w
  · obtain ⟨g, o, rfl, _, _⟩ := hr 0 _ (List.getElem?_eq_getElem h0)
    have := Tryz.slices_Contains_string g o zs.length c zs x w (Nat.le_refl _) (by omega) (fun j hj => by
      obtain ⟨g', o', he, _, hc⟩ := hr j _ (List.getElem?_eq_getElem hj)
      simp only [Option.some.injEq, Addr.mk.injEq, and_true] at he
      obtain ⟨rfl, rfl⟩ := he
      rw [hc]; simp [List.getD, hj])
    rwa [List.take_length] at this

/-- **among** -/
theorem among_any (v : Value) (zs : List ByteArray) (x : ByteArray) (hz : zs.length ≤ 1000) (w : World) (hr : StrRead w v zs) :
    Calls Tryz.prog 91 #[.string x, v] w fun e W => e = .returned (.bool (Lib.containsS zs x)) ∧ W = w := by
  have HR := Lib.hid hr
  clear hr
  go_enter Tryz.func91, Tryz.ntmps91
  go_wp2_with fail
  go_at_call 118
  refine (contains_any v zs x hz _ HR.out).mono ?_
  rintro e w9 ⟨rfl, rfl⟩
  go_wp2_with fail
  go_ret
  exact ⟨rfl, rfl⟩

/-- Strings in a new block. -/
theorem strs_new (w : World) (zs : List ByteArray) (h : zs.length ≤ 1000) : StrRead (w.alloc (.cells (zs.map Value.string).toArray 9)) (.slice (some ⟨w.heap.size, 0, none⟩) zs.length zs.length) zs := by
  refine ⟨_, _, rfl, ⟨by unfold maxLen; omega, Nat.le_refl _⟩, fun k s hk => ⟨w.heap.size, 0, rfl, by rw [World.size_alloc]; omega, ?_⟩⟩
  rw [cell_of_row _ _ _ _ _ _ (heap_alloc_new w _)]
  simp [hk]

/-- **Words** -/
theorem words_any (w : World) : Calls Tryz.prog 18 #[] w fun e W => e = .returned (.slice (some ⟨w.heap.size, 0, none⟩) 6 6) ∧ W = w.alloc (.cells (givenW.map Value.string).toArray 9) := by
  go_enter Tryz.func18, Tryz.ntmps18
  go_wp2_with fail
  go_ret
  exact ⟨rfl, rfl⟩

theorem okWordsAt_eq (ws : List ByteArray) (i : Nat) (x : ByteArray) : okWordsAt ws i x = (wordOk x && !Lib.containsS [tEnd, tSlot] x && !Lib.containsS givenW x && !Lib.containsS (ws.take i) x) := rfl
def okTo (ws : List ByteArray) (k : Nat) : Bool := (List.range k).all fun i => okWordsAt ws i (ws.getD i ByteArray.empty)
theorem okTo_succ (ws : List ByteArray) (k : Nat) : okTo ws (k + 1) = (okTo ws k && okWordsAt ws k (ws.getD k ByteArray.empty)) := by
  simp [okTo, List.range_succ]
theorem okTo_le {ws : List ByteArray} : ∀ {k n : Nat}, k ≤ n → okTo ws k = false → okTo ws n = false
  | k, 0, h, hf => by rw [Nat.le_zero.1 h] at hf; exact hf
  | k, n + 1, h, hf => by
    rcases Nat.lt_or_ge n k with h1 | h1
    · rw [show n + 1 = k by omega]; exact hf
    · rw [okTo_succ, okTo_le h1 hf, Bool.false_and]

set_option maxRecDepth 100000 in
set_option maxHeartbeats 8000000 in
/-- **areRight** -/
theorem areRight_any (v : Value) (ws : List ByteArray) (w : World) (he : Env w) (hs : ∀ s ∈ ws, s.size ≤ maxLen) (hr : StrRead w v ws) :
    Calls Tryz.prog 61 #[v] w fun e W => e = .returned (.bool (okWords ws)) ∧ Below w.heap.size w W := by
  have HR := Lib.hid hr
  have HE := Lib.hid he
  have HZ := Lib.hid hs
  obtain ⟨a, c, rfl, ⟨hn, hc⟩, hrr⟩ := hr
  have HC := Lib.hid hrr
  clear hrr he hs
  unfold maxLen at hn
  by_cases h40 : 40 < ws.length
  · have hq : okWords ws = false := by unfold okWords; simp; omega
    rw [hq]
    have hd : decide ((ws.length : Int) > 40) = true := by simp; omega
    go_enter Tryz.func61, Tryz.ntmps61
    go_wp2_with fail
    go_ret
    exact ⟨rfl, Below.refl _ _⟩
  · have hq : okWords ws = okTo ws ws.length := by unfold okWords okTo; rw [decide_eq_true (by omega), Bool.true_and]
    rw [hq]
    obtain ⟨q, hq⟩ : ∃ q, okTo ws ws.length = q := ⟨_, rfl⟩
    rw [hq]
    have HQ := Lib.hid hq
    clear hq
    have hd : decide ((ws.length : Int) > 40) = false := by simp; omega
    go_enter Tryz.func61, Tryz.ntmps61
    go_wp2_with fail
    go_loopw [10] (fun y wr => ∃ k : Nat, k ≤ ws.length ∧ y = .int .i64 k ∧ Hid (okTo ws k = true) ∧ Hid (Below w.heap.size w wr)) (fun y _ => ws.length - (intOf y).toNat)
    case atStart => exact ⟨0, by omega, rfl, Lib.hid (by simp [okTo]), Lib.hid (Below.refl _ _)⟩
    case round =>
      obtain ⟨k, hk, rfl, HN, HB⟩ := hrel
      by_cases hlt : k < ws.length
      · obtain ⟨nm, hnm⟩ : ∃ nm, ws[k]? = some nm := ⟨_, List.getElem?_eq_getElem hlt⟩
        obtain ⟨g, o, rfl, hgw, s0⟩ := HC.out k nm hnm
        have s0' : wr.cell? ⟨g, o + k, none⟩ = some (.string nm) := (HB.out.cell (p := ⟨g, _, none⟩) hgw).trans s0
        have hok : okTo ws (k + 1) = okWordsAt ws k nm := by rw [okTo_succ, HN.out, Bool.true_and]; simp [List.getD, hnm]
        rw [okWordsAt_eq] at hok
        have HOK := Lib.hid hok
        have hnz : nm.size ≤ maxLen := HZ.out nm (List.mem_of_getElem? hnm)
        have hew := HE.out.any rfl HB.out
        have HEW := Lib.hid hew
        clear hok hew s0
        have hread := HR.out.bl HB.out
        have HRW := Lib.hid hread
        clear hread
        obtain ⟨p1, hp1⟩ : ∃ p, ((qKind nm.data.toList == 1) && !decide (0 ≤ Lib.indexByte nm.data.toList 64)) = p := ⟨_, rfl⟩
        have hw1 : wordOk nm = p1 := hp1
        rw [hw1] at HOK
        have hplain := isPlain_any nm hnz
        rw [hp1] at hplain
        have HPL := Lib.hid hplain
        clear hp1 hw1 hplain
        have hbad : okTo ws (k + 1) = false → q = false := fun h => by rw [← HQ.out]; exact okTo_le hlt h
        have HBAD := Lib.hid hbad
        clear hbad
        go_wp2_with fail
        go_at_call 90
        refine (HPL.out _ HEW.out).mono ?_
        rintro e w1 ⟨rfl, hb1⟩
        have hbw1 := HB.out.trans (hb1.mono HB.out.size)
        cases p1
        · have hqf : q = false := HBAD.out HOK.out
          subst hqf
          go_wp2_with fail
          go_ret
          exact ⟨rfl, hbw1⟩
        have hsr := strs_new w1 [tEnd, tSlot] (by decide)
        have hbw2 := hbw1.alloc hbw1.size (.cells ([tEnd, tSlot].map Value.string).toArray 9)
        have HS2 := Lib.hid hsr
        have HB2 := Lib.hid hbw2
        have HRR2 := Lib.hid (HR.out.bl hbw2)
        clear hsr hbw2 hbw1 hb1
        go_wp2_with fail
        go_at_call 91
        refine (among_any _ [tEnd, tSlot] nm (by decide) _ HS2.out).mono ?_
        rintro e w2 ⟨rfl, rfl⟩
        obtain ⟨p2, hp2⟩ : ∃ p, Lib.containsS [tEnd, tSlot] nm = p := ⟨_, rfl⟩
        rw [hp2] at HOK ⊢
        clear hp2
        cases p2
        rotate_left
        · have hqf : q = false := HBAD.out HOK.out
          subst hqf
          go_wp2_with fail
          go_ret
          exact ⟨rfl, HB2.out⟩
        go_wp2_with fail
        go_at_call 18
        refine (words_any _).mono ?_
        rintro e w3 ⟨rfl, rfl⟩
        have hsr := strs_new (w1.alloc (.cells ([tEnd, tSlot].map Value.string).toArray 9)) givenW (by decide)
        rw [World.size_alloc] at hsr
        have hbw3 := HB2.out.alloc HB2.out.size (.cells (givenW.map Value.string).toArray 9)
        have HS3 := Lib.hid hsr
        have HB3 := Lib.hid hbw3
        have hrd := HR.out.bl hbw3
        have hstk : StrRead ((w1.alloc (.cells ([tEnd, tSlot].map Value.string).toArray 9)).alloc (.cells (givenW.map Value.string).toArray 9)) (.slice (some ⟨g, o, none⟩) k c) (ws.take k) := by
          obtain ⟨a', c', hv, ⟨h1, h2⟩, h3⟩ := hrd
          simp only [Value.slice.injEq] at hv
          obtain ⟨rfl, _, rfl⟩ := hv
          have hl : (ws.take k).length = k := by rw [List.length_take]; omega
          refine ⟨_, c, by rw [hl], ⟨by rw [hl]; omega, by rw [hl]; omega⟩, fun j s hj => ?_⟩
          rw [List.getElem?_take] at hj
          split at hj
          · exact h3 j s hj
          · cases hj
        have HTK := Lib.hid hstk
        have hl1000 : (ws.take k).length ≤ 1000 := by rw [List.length_take]; omega
        clear hsr hbw3 hrd hstk
        go_wp2_with fail
        go_at_call 91
        refine (among_any _ givenW nm (by decide) _ HS3.out).mono ?_
        rintro e w3 ⟨rfl, rfl⟩
        obtain ⟨p3, hp3⟩ : ∃ p, Lib.containsS givenW nm = p := ⟨_, rfl⟩
        rw [hp3] at HOK ⊢
        clear hp3
        cases p3
        rotate_left
        · have hqf : q = false := HBAD.out HOK.out
          subst hqf
          go_wp2_with fail
          go_ret
          exact ⟨rfl, HB3.out⟩
        go_wp2_with fail
        go_at_call 91
        refine (among_any _ (ws.take k) nm hl1000 _ HTK.out).mono ?_
        rintro e w3 ⟨rfl, rfl⟩
        obtain ⟨p4, hp4⟩ : ∃ p, Lib.containsS (ws.take k) nm = p := ⟨_, rfl⟩
        rw [hp4] at HOK ⊢
        clear hp4
        cases p4
        rotate_left
        · have hqf : q = false := HBAD.out HOK.out
          subst hqf
          go_wp2_with fail
          go_ret
          exact ⟨rfl, HB3.out⟩
        go_wp2_with fail
        go_roundw
        case rel => exact ⟨k + 1, by omega, rfl, Lib.hid HOK.out, HB3⟩
        case measure => simp [intOf]; omega
      · obtain rfl : k = ws.length := by omega
        have hqt : q = true := by rw [← HQ.out, HN.out]
        subst hqt
        go_wp2_with fail
        go_ret
        exact ⟨rfl, HB.out⟩
end Go.Proofs.YtopbmndjnjnmcaaGreatDoor

/- (F6) -/
/- Package fragment: the map of what closes groups; the innermost group in memory; opens. -/
namespace Go.Proofs.YtopbmndjnjnmcaaGreatDoor
open Go.RowKit Lx Go.Sort Go.Maps Go.WideMaps

attribute [local go_sem] Oper.semAt_some

/-- What the map's elements read as. -/
def closeR (r : Nat) : Value → Option (DataW Unit × List MemPlace)
  | .func (.func f) ⟨[.pointer (some ⟨b, 0, none⟩)]⟩ ⟨[]⟩ => if b = r ∧ f = 70 then some (.lit (.int .i64 0), []) else if b = r ∧ f = 71 then some (.lit (.int .i64 1), []) else none
  | .nilFunc => some (.lit (.int .i64 2), [])
  | _ => none
def endV (r : Nat) : Value := .func (.func 70) #[.pointer (some ⟨r, 0, none⟩)] #[]
def namedV (r : Nat) : Value := .func (.func 71) #[.pointer (some ⟨r, 0, none⟩)] #[]
theorem closeR_end (r : Nat) : closeR r (endV r) = some (.lit (.int .i64 0), []) := by simp [closeR, endV]
theorem closeR_named (r : Nat) : closeR r (namedV r) = some (.lit (.int .i64 1), []) := by simp [closeR, namedV]
theorem closeR_inv {r : Nat} {v : Value} {n : Int} {ps : List MemPlace} (h : closeR r v = some (.lit (.int .i64 n), ps)) : (n = 0 ∧ v = endV r) ∨ (n = 1 ∧ v = namedV r) ∨ (n = 2 ∧ v = .nilFunc) := by
  unfold closeR at h
  split at h
  · split at h
    · rename_i h2; obtain ⟨rfl, rfl⟩ := h2
      simp at h; exact .inl ⟨h.1.symm, rfl⟩
    · split at h
      · rename_i h2; obtain ⟨rfl, rfl⟩ := h2
        simp at h; exact .inr (.inl ⟨h.1.symm, rfl⟩)
      · cases h
  · simp at h; exact .inr (.inr ⟨h.1.symm, rfl⟩)
  · cases h

def codeOf : Option Bool → Int | none => 2 | some false => 0 | some true => 1
def closerV (r : Nat) : Option Bool → Value | none => .nilFunc | some false => endV r | some true => namedV r
theorem key9 : Keyed Tryz.prog 9 := string_keyed Tryz.underlying9
theorem zero100 (w : World) : (zeroValue 1).run Tryz.prog w = .ok .nilFunc w := by kernel_rfl
/-- A map that says what closes. -/
def ClosD (f : List UInt8 → Option Bool) (D : DataW Unit) : Prop := IsMap D ∧ ∀ s : ByteArray, Maps.has D (.string s.data.toList) = (f s.toList).isSome ∧ D.atKey (.string s.data.toList) (.lit (.int .i64 2)) = .lit (.int .i64 (codeOf (f s.toList)))
/-- The map in memory. -/
def Clos (W : World) (mb r : Nat) (f : List UInt8 → Option Bool) : Prop := ∃ D n, W.ownsMap Tryz.prog 9 (closeR r) mb n D ∧ ClosD f D ∧ n ≤ 100

/-- **Looking up** what closes. -/
theorem Clos.look {W : World} {mb r : Nat} {f : List UInt8 → Option Bool} (h : Clos W mb r f) (s : ByteArray) (hs : s.size ≤ maxLen) {W' : World} (hm : W'.heap[mb]? = W.heap[mb]?) :
    (Instr.lookup 99 (.map (some mb)) (.string s) true).run Tryz.prog W' = .ok (.tuple #[closerV r (f s.toList), .bool (f s.toList).isSome]) W' := by
  obtain ⟨D, n, ho, ⟨_, hf⟩, _⟩ := h
  have ho' : W'.ownsMap Tryz.prog 9 (closeR r) mb n D := by
    obtain ⟨es, clock, hb, hF⟩ := ho
    exact ⟨es, clock, hm.trans hb, hF⟩
  obtain ⟨v, ps, hrun, hv⟩ := ho'.look_ok key9 Tryz.underlying99 (zero100 W') (zd := .lit (.int .i64 2)) (zp := []) rfl (keyOf_string_mk Tryz.underlying9 hs)
  obtain ⟨f1, f2⟩ := hf s
  rw [f1] at hrun
  rw [f2] at hv
  rw [hrun]
  have : v = closerV r (f s.toList) := by
    rcases closeR_inv hv with ⟨h1, rfl⟩ | ⟨h1, rfl⟩ | ⟨h1, rfl⟩ <;> (cases hq : f s.toList with
      | none => rw [hq] at h1; first | rfl | (simp [codeOf] at h1)
      | some b => cases b <;> (rw [hq] at h1; first | rfl | (simp [codeOf] at h1)))
  rw [this]
theorem Clos.keep {W W' : World} {mb r : Nat} {f : List UInt8 → Option Bool} (h : Clos W mb r f) (hm : W'.heap[mb]? = W.heap[mb]?) : Clos W' mb r f := by
  obtain ⟨D, n, ⟨es, clock, hb, hF⟩, h2, h3⟩ := h
  exact ⟨D, n, ⟨es, clock, hm.trans hb, hF⟩, h2, h3⟩

/-- The innermost group in memory. -/
theorem RdI.head {B r mb : Nat} {vt : Value} {at_ : Int} {gv : Value} {f : Gp} {rest : List Gp} {W : World} (h : RdI B r mb vt at_ gv (f :: rest) W) :
    ∃ gb cap, gv = .slice (some ⟨gb, 0, none⟩) (rest.length + 1) cap ∧ rest.length + 1 ≤ cap ∧ cap ≤ maxLen ∧ B ≤ gb ∧ gb < W.heap.size ∧
      ∀ j v, (gpC f)[j]? = some v → W.cell? ⟨gb, rest.length * 8 + j, none⟩ = some v := by
  obtain ⟨h0, ⟨_, h1⟩ | ⟨g, cap, cur, rfl, h1, h2, h3, h4, h5, h6⟩⟩ := h.gs
  · simp at h1
  · refine ⟨g, cap, rfl, h3, h4, h1, (Array.getElem?_eq_some_iff.1 h2).1, fun j v hj => ?_⟩
    have h8 : (gpC f).length = 8 := rfl
    have hj8 : j < 8 := by rw [← h8]; exact (List.getElem?_eq_some_iff.1 hj).1
    rw [cell_of_row _ _ _ _ _ _ h2, ← Array.getElem?_toList]
    have e : (cur.toList.take ((f :: rest).length * 8))[rest.length * 8 + j]? = some v := by
      rw [h6, show gpsC (f :: rest) = gpsC rest ++ gpC f from rfl, List.getElem?_append_right (by rw [gpsC_len]; omega), gpsC_len, Nat.add_sub_cancel_left]
      exact hj
    rw [List.getElem?_take] at e
    split at e
    · exact e
    · cases e
end Go.Proofs.YtopbmndjnjnmcaaGreatDoor

/- (F7) -/
/- Package fragment: opens. -/
namespace Go.Proofs.YtopbmndjnjnmcaaGreatDoor
open Go.RowKit Lx Go.Sort Go.Maps

attribute [local go_sem] Oper.semAt_some

theorem tok_new (w : World) (t : Tok) : ((w.alloc (.cells (tokC t) 50)).cell? ⟨w.heap.size, 0, none⟩ = some (.int .i64 t.kind)) ∧ (w.alloc (.cells (tokC t) 50)).cell? ⟨w.heap.size, 2, none⟩ = some (.string t.text) := by
  obtain ⟨h0, _, h2, _, _⟩ := tok_cells (heap_alloc_new w (.cells (tokC t) 50))
  exact ⟨h0, h2⟩

theorem three {a b c : Bool} (h : (a && b && c) = false) : a = false ∨ (a = true ∧ b = false) ∨ (a = true ∧ b = true ∧ c = false) := by cases a <;> cases b <;> cases c <;> simp_all
theorem tClass_list : tClass.toList = [99, 108, 97, 115, 115] := by rw [toList_data]; rfl
theorem tMacro_list : tMacro.toList = [109, 97, 99, 114, 111] := by rw [toList_data]; rfl

set_option maxRecDepth 100000 in
set_option maxHeartbeats 8000000 in
/-- **opens** -/
theorem opens_any (ts : List Tok) (ws : List ByteArray) (s : Rst) (t : Tok) (vt gv : Value) (r mb gb cap m : Nat) (hts : ts.length ≤ 6000) (hat : s.at_ ≤ 6000) (hsz : t.text.size ≤ maxLen) (w : World)
    (hrd : w.heap[r]? = some (.cells #[vt, .int .i64 s.at_, gv, .map (some mb)] 101 (0, 0))) (hgv : gv = .slice (some ⟨gb, 0, none⟩) (m + 1) cap) (hm1 : m + 1 ≤ cap) (hm2 : cap ≤ maxLen)
    (h5 : w.cell? ⟨gb, m * 8 + 5, none⟩ = some (.string s.g.op)) (h7 : w.cell? ⟨gb, m * 8 + 7, none⟩ = some (.int .i64 s.g.from_)) (hcl : Clos w mb r (clo ws)) (hmb : mb < w.heap.size) (hr : TokRead w vt ts) :
    Calls Tryz.prog 104 #[.pointer (some ⟨r, 0, none⟩), TokV t] w fun e W => e = .returned (.bool (pOpens ts ws s t)) ∧ Below w.heap.size w W := by
  subst hgv
  have lr : r < w.heap.size := (Array.getElem?_eq_some_iff.1 hrd).1
  have lg : gb < w.heap.size := cell_lt' h5
  have hb0 : Below w.heap.size w (w.alloc (.cells (tokC t) 50)) := (Below.refl w.heap.size w).alloc (Nat.le_refl _) _
  have hrd0 := (hb0.block r lr).trans hrd
  obtain ⟨c0, c1, c2, c3⟩ := rd_cells hrd0
  obtain ⟨t0, t2⟩ := tok_new w t
  have hlook := fun n => hcl.look t.text hsz (W' := (w.alloc (.cells (tokC t) 50)).drewN n) ((below_drewN hb0 n).block mb hmb)
  obtain ⟨cv, hcv⟩ : ∃ cv, clo ws t.text.toList = cv := ⟨_, rfl⟩
  simp only [hcv] at hlook
  have hq : pOpens ts ws s t = (cv.isSome && (!((t.kind == 1) && (s.g.op.toList == tMacro.toList) && (s.g.from_ == (s.at_ : Int) - 1)) && ((t.text.toList != tClass.toList) || !nextAre ts s.at_ [tSlot]))) := by rw [← hcv]; rfl
  obtain ⟨q, hqq⟩ : ∃ q, pOpens ts ws s t = q := ⟨_, rfl⟩
  rw [hqq] at hq ⊢
  clear hqq hcv
  have HQ := Lib.hid hq
  have HB0 := Lib.hid hb0
  have HRD := Lib.hid hrd0
  have HR := Lib.hid (hr.bl hb0)
  have g5 := (hb0.cell (p := ⟨gb, _, none⟩) lg).trans h5
  have g7 := (hb0.cell (p := ⟨gb, _, none⟩) lg).trans h7
  obtain ⟨tk, tn, tx, ta, tm⟩ := t
  unfold TokV tokC at *
  simp only at *
  clear hq hb0 hrd hrd0 hr h5 h7 hcl
  cases cv with
  | none =>
    have hqf : q = false := HQ.out
    subst hqf
    go_enter Tryz.func104, Tryz.ntmps104
    go_wp2_with fail
    go_quiet (fail)
    go_wp2_with fail
    go_ret
    exact ⟨rfl, below_drewN HB0.out _⟩
  | some b =>
    have hq2 : q = (!((tk == 1) && (s.g.op.toList == tMacro.toList) && (s.g.from_ == (s.at_ : Int) - 1)) && ((tx.toList != tClass.toList) || !nextAre ts s.at_ [tSlot])) := by rw [HQ.out]; rfl
    have HQ2 := Lib.hid hq2
    have hw1 : IntKind.i64.wrap ((s.at_ : Int) - 1) = (s.at_ : Int) - 1 := by rw [IntWalk.i64_in _ (by omega)]
    clear hq2 HQ
    go_enter Tryz.func104, Tryz.ntmps104
    go_wp2_with fail
    go_quiet (fail)
    go_wp2_with fail
    have hbq := below_drewN HB0.out nq
    have hrq := HR.out.bl (below_drewN (Below.refl _ _) nq)
    obtain ⟨W2, hW2⟩ : ∃ W2, (w.alloc (.cells #[.int .i64 tk, .int .i64 tn, .string tx, .int .i64 ta, .int .i64 tm] 50)).drewN nq = W2 := ⟨_, rfl⟩
    have e0 : W2.cell? ⟨r, 0, none⟩ = some vt := by rw [← hW2]; exact c0
    have e1 : W2.cell? ⟨r, 1, none⟩ = some (.int .i64 s.at_) := by rw [← hW2]; exact c1
    have e2 : W2.cell? ⟨r, 2, none⟩ = some (.slice (some ⟨gb, 0, none⟩) (m + 1) cap) := by rw [← hW2]; exact c2
    have f0 : W2.cell? ⟨w.heap.size, 0, none⟩ = some (.int .i64 tk) := by rw [← hW2]; exact t0
    have f2 : W2.cell? ⟨w.heap.size, 2, none⟩ = some (.string tx) := by rw [← hW2]; exact t2
    have i5 : W2.cell? ⟨gb, m * 8 + 5, none⟩ = some (.string s.g.op) := by rw [← hW2]; exact g5
    have i7 : W2.cell? ⟨gb, m * 8 + 7, none⟩ = some (.int .i64 s.g.from_) := by rw [← hW2]; exact g7
    rw [hW2] at hbq hrq ⊢
    clear hW2 c0 c1 c2 c3 t0 t2 g5 g7 HB0 HRD HR hlook
    have HBQ := Lib.hid hbq
    have HRQ := Lib.hid hrq
    clear hbq hrq
    have cI : ∀ d os, Calls Tryz.prog 74 #[.pointer (some ⟨r, 0, none⟩)] (grow (redrawn W2 d) os) fun e w'' => e = .returned (.pointer (some ⟨gb, m * 8, none⟩)) ∧ ∃ p : Regrown, w'' = grow (redrawn W2 p.d) p.os := fun d os => Calls.regrown_of ((inner_any r gb m cap hm1 hm2 _ ((cell_regrown e2) d os)).mono fun e w' ⟨h1, n, h2⟩ => ⟨h1, by rw [h2]; exact below_drewN (Below.refl _ _) n⟩)
    have k0 := cell_regrown e0
    have k1 := cell_regrown e1
    have k2 := cell_regrown e2
    have j0 := cell_regrown f0
    have j2 := cell_regrown f2
    have j5 := cell_regrown i5
    have j7 := cell_regrown i7
    have hq3 := HQ2.out
    rw [tClass_list, tMacro_list] at hq3
    have HQ3 := Lib.hid hq3
    clear hq3 HQ2 e0 e1 e2 f0 f2 i5 i7
    obtain ⟨eA, hA⟩ : ∃ eA, (tk == 1) = eA := ⟨_, rfl⟩
    obtain ⟨eB, hB⟩ : ∃ eB, (s.g.op.toList == [109, 97, 99, 114, 111]) = eB := ⟨_, rfl⟩
    obtain ⟨eC, hC⟩ : ∃ eC, (s.g.from_ == (s.at_ : Int) - 1) = eC := ⟨_, rfl⟩
    rw [hA, hB, hC] at HQ3
    by_cases hall : (eA && eB && eC) = true
    · have hqf : q = false := by rw [HQ3.out, hall]; rfl
      subst hqf
      simp only [Bool.and_eq_true] at hall
      obtain ⟨⟨rfl, rfl⟩, rfl⟩ := hall
      refine wp_region_quiet_below (by kernel_rfl) (by kernel_rfl) ?_
      repeat (first | go_big_quiet_skip | quiet_step (exact cI _ _))
      refine wpQuiet_nil ?_
      intro _ hw'
      obtain ⟨⟨dq, osq⟩, hw''⟩ := hw'
      subst hw''
      go_wp2_with fail
      go_ret
      exact ⟨rfl, HBQ.out.trans ((below_regrown _ _ _).mono HBQ.out.size)⟩
    · have hall' : (eA && eB && eC) = false := by simpa using hall
      have hq4 : q = (!(tx.toList == [99, 108, 97, 115, 115]) || !nextAre ts s.at_ [tSlot]) := by rw [HQ3.out, hall']; rfl
      have HQ4 := Lib.hid hq4
      clear hq4 HQ3 hall
      refine wp_region_quiet_below (by kernel_rfl) (by kernel_rfl) ?_
      rcases three hall' with rfl | ⟨rfl, rfl⟩ | ⟨rfl, rfl, rfl⟩
      all_goals
        clear hall'
        repeat (first | go_big_quiet_skip | quiet_step (exact cI _ _))
        refine wpQuiet_nil ?_
        intro _ hw'
        obtain ⟨⟨dq, osq⟩, hw''⟩ := hw'
        subst hw''
        have hbz := HBQ.out.trans ((below_regrown W2 dq osq).mono HBQ.out.size)
        have hrz := HRQ.out.bl (below_regrown W2 dq osq)
        have l0 := k0 dq osq
        have l1 := k1 dq osq
        have m0 := j0 dq osq
        have m2 := j2 dq osq
        obtain ⟨W3, hW3⟩ : ∃ W3, grow (redrawn W2 dq) osq = W3 := ⟨_, rfl⟩
        rw [hW3] at hbz hrz l0 l1 m0 m2 ⊢
        clear hW3 k0 k1 k2 j0 j2 j5 j7 cI
        have HBZ := Lib.hid hbz
        have hbz2 := hbz.alloc hbz.size (.cells ([tSlot].map Value.string).toArray 9)
        have HBZ2 := Lib.hid hbz2
        have hsr := strs_new W3 [tSlot] (by decide)
        have HSR := Lib.hid hsr
        have bz := (Below.refl W3.heap.size W3).alloc (Nat.le_refl _) (.cells ([tSlot].map Value.string).toArray 9)
        have n0 := (bz.cell (p := ⟨r, 0, none⟩) (cell_lt' l0)).trans l0
        have n1 := (bz.cell (p := ⟨r, 1, none⟩) (cell_lt' l1)).trans l1
        have HRZ := Lib.hid (hrz.bl bz)
        clear hbz hbz2 hsr hrz bz
        cases eD : (tx.toList == [99, 108, 97, 115, 115])
        · have hqt : q = true := by rw [HQ4.out, eD]; rfl
          subst hqt
          go_wp2_with fail
          go_ret
          exact ⟨rfl, HBZ.out⟩
        · rw [eD, Bool.not_true, Bool.false_or] at HQ4
          go_wp2_with fail
          go_at_call 101
          refine (nextAre_any ts vt _ [tSlot] r s.at_ hts (by decide) hat _ n0 n1 HRZ.out HSR.out).mono ?_
          rintro e w9 ⟨rfl, hb9⟩
          have hbf := HBZ2.out.trans (hb9.mono HBZ2.out.size)
          go_wp2_with fail
          go_ret
          exact ⟨by rw [HQ4.out]; rfl, hbf⟩
end Go.Proofs.YtopbmndjnjnmcaaGreatDoor

/- (F9a) -/
/- Package fragment: what an added fragment leaves. -/
namespace Go.Proofs.YtopbmndjnjnmcaaGreatDoor
open Go.RowKit Lx Go.Sort

def zFrag : List Value := [.int .i64 0, .int .i64 0, .string ⟨#[]⟩, .int .i64 0, .int .i64 0, .string ⟨#[]⟩, .slice none 0 0]

/-- Stores in two blocks commute. -/
theorem set_comm (w : World) (a b : Addr) (u v : Value) (h : a.block ≠ b.block) : (w.setCell a u).setCell b v = (w.setCell b v).setCell a u := by
  unfold World.setCell
  simp only
  congr 1
  apply Array.ext
  · simp
  · intro i h1 h2
    simp only [Array.getElem_modify]
    by_cases ha : a.block = i
    · have hb : ¬ b.block = i := fun e => h (ha.trans e.symm)
      simp [ha, hb]
    · by_cases hb : b.block = i <;> simp [ha, hb]

/-- What add has done. -/
def Added (B r mb : Nat) (vt : Value) (at_ : Int) (gv : Value) (f : Gp) (rest : List Gp) (f0 : Fr) (w W : World) : Prop :=
  (∃ g1 cap1, RdI B r mb vt at_ gv ({ f with kids := f.kids ++ [f0], kv := .slice (some ⟨g1, 0, none⟩) (f.kids.length + 1) cap1 } :: rest) W) ∧ Below B w W ∧ W.heap[mb]? = w.heap[mb]? ∧
    ∀ b, ¬ Live r mb gv (f :: rest) b → b < w.heap.size → W.heap[b]? = w.heap[b]?

theorem set7 {xs : List Value} {n : Nat} (hx : xs.length = n * 7) (a0 a1 a2 a3 a4 a5 a6 : Value) :
    (((((((xs ++ zFrag).set (n * 7) a0).set (n * 7 + 1) a1).set (n * 7 + 2) a2).set (n * 7 + 3) a3).set (n * 7 + 4) a4).set (n * 7 + 5) a5).set (n * 7 + 6) a6 = xs ++ [a0, a1, a2, a3, a4, a5, a6] := by
  simp [zFrag, hx]

section
variable {B r mb gb cap g1 cap1 : Nat} {vt kv0 : Value} {at_ : Int} {f : Gp} {rest : List Gp} {w W2 w10 : World} {f0 : Fr} {xs : List Value} {o : Obj}
theorem added_done (h : RdI B r mb vt at_ (.slice (some ⟨gb, 0, none⟩) (rest.length + 1) cap) (f :: rest) w)
    (hf0 : FrRead w (fun b => ¬ Live r mb (.slice (some ⟨gb, 0, none⟩) (rest.length + 1) cap) (f :: rest) b) kv0 f0.kids)
    (hx : KidsC w (fun b => ¬ Live r mb (.slice (some ⟨gb, 0, none⟩) (rest.length + 1) cap) (f :: rest) b) f.kids xs) (hxl : xs.length = f.kids.length * 7)
    (hb2 : Below w.heap.size w W2) (h1 : w10.ownsRow B 52 7 (.slice (some ⟨g1, 0, none⟩) (f.kids.length + 1) cap1) (f.kids.length + 1) (xs ++ zFrag))
    (hg : (W2.alloc o).drew.grownBy w10 f.kv.ownBlock) (hat : f.kv.ownBlock = some g1 ∨ g1 = W2.heap.size + 1) :
    Added B r mb vt at_ (.slice (some ⟨gb, 0, none⟩) (rest.length + 1) cap) f rest f0 w
      ((((((((w10.setCell ⟨g1, f.kids.length * 7, none⟩ (.int .i64 f0.tok.kind)).setCell ⟨g1, f.kids.length * 7 + 1, none⟩ (.int .i64 f0.tok.num)).setCell ⟨g1, f.kids.length * 7 + 2, none⟩ (.string f0.tok.text)).setCell ⟨g1, f.kids.length * 7 + 3, none⟩ (.int .i64 f0.tok.at_)).setCell
        ⟨g1, f.kids.length * 7 + 4, none⟩ (.int .i64 f0.tok.mark)).setCell ⟨g1, f.kids.length * 7 + 5, none⟩ (.string f0.op)).setCell ⟨g1, f.kids.length * 7 + 6, none⟩ kv0).setCell ⟨gb, rest.length * 8 + 6, none⟩ (.slice (some ⟨g1, 0, none⟩) (f.kids.length + 1) cap1)) := by
  obtain ⟨d1, d2, d3⟩ := h.diff
  have d3f := d3 f (List.mem_cons_self)
  obtain ⟨hBgb, cg, hcg⟩ := owned_cells h.gs (b := gb) rfl
  obtain ⟨hBg1, _⟩ := owned_cells h1 (b := g1) rfl
  have hsz2 := hb2.size
  have hB : B ≤ w.heap.size := by have := h.base.2; omega
  have hszd : (W2.alloc o).drew.heap.size = W2.heap.size + 1 := by show (W2.alloc o).heap.size = _; rw [World.size_alloc]
  have hsz10 := hg.size
  rw [hszd] at hsz10
  have hown := owns_set1 (a := kv0) (owns_set1 (a := .string f0.op) (owns_set1 (a := .int .i64 f0.tok.mark) (owns_set1 (a := .int .i64 f0.tok.at_) (owns_set1 (a := .string f0.tok.text) (owns_set1 (a := .int .i64 f0.tok.num) (owns_set1 (a := .int .i64 f0.tok.kind) h1 (f.kids.length * 7)) (f.kids.length * 7 + 1)) (f.kids.length * 7 + 2)) (f.kids.length * 7 + 3)) (f.kids.length * 7 + 4)) (f.kids.length * 7 + 5)) (f.kids.length * 7 + 6)
  rw [set7 hxl] at hown
  have h10 : ∀ b, b < w.heap.size → f.kv.ownBlock ≠ some b → w10.heap[b]? = w.heap[b]? := fun b hlt hne =>
    (hg.block b (by omega) (Ne.symm hne)).trans ((((Below.refl W2.heap.size W2).alloc (Nat.le_refl _) o).drew.block b (by omega)).trans (hb2.block b hlt))
  have hne1 : ∀ b, b < w.heap.size → f.kv.ownBlock ≠ some b → b ≠ g1 := fun b hlt hne e => by
    subst e
    rcases hat with h | h
    · exact hne h
    · omega
  have hgr : ∀ b, b < w.heap.size → f.kv.ownBlock ≠ some b → (((((((w10.setCell ⟨g1, f.kids.length * 7, none⟩ (.int .i64 f0.tok.kind)).setCell ⟨g1, f.kids.length * 7 + 1, none⟩ (.int .i64 f0.tok.num)).setCell ⟨g1, f.kids.length * 7 + 2, none⟩ (.string f0.tok.text)).setCell ⟨g1, f.kids.length * 7 + 3, none⟩ (.int .i64 f0.tok.at_)).setCell
        ⟨g1, f.kids.length * 7 + 4, none⟩ (.int .i64 f0.tok.mark)).setCell ⟨g1, f.kids.length * 7 + 5, none⟩ (.string f0.op)).setCell ⟨g1, f.kids.length * 7 + 6, none⟩ kv0).heap[b]? = w.heap[b]? := fun b hlt hne => by
    have hb := hne1 b hlt hne
    rw [set_ne _ _ _ _ hb, set_ne _ _ _ _ hb, set_ne _ _ _ _ hb, set_ne _ _ _ _ hb, set_ne _ _ _ _ hb, set_ne _ _ _ _ hb, set_ne _ _ _ _ hb]
    exact h10 b hlt hne
  have hres := h.add rfl hf0 hx hown (by simp only [set_size]; omega) hgr (hat.imp id fun e => by omega)
  have hfin : ∀ b, b < w.heap.size → f.kv.ownBlock ≠ some b → b ≠ gb → _ = w.heap[b]? := fun b hlt hne hb => (set_ne _ gb (rest.length * 8 + 6) (.slice (some ⟨g1, 0, none⟩) (f.kids.length + 1) cap1) hb).trans (hgr b hlt hne)
  refine ⟨⟨g1, cap1, hres⟩, ?_, hfin mb h.base.2.2 (fun e => (d3f mb e).2.1 rfl) (Ne.symm (d2 gb rfl).2), fun b hs hlt => hfin b hlt (fun e => hs (.inr (.inr (.inr ⟨f, List.mem_cons_self, e⟩)))) fun e => hs (.inr (.inr (.inl (by rw [e]; rfl))))⟩
  have hbl : Below B w w10 := ((hb2.mono hB).trans (((Below.refl W2.heap.size W2).alloc (Nat.le_refl _) o).drew.mono (by omega))).grown hg (by omega) (fun k e => by
    obtain ⟨xs', q1, _⟩ := h.kids f (List.mem_cons_self)
    exact (owned_cells q1 e).1)
  exact (((((((hbl.setCell hBg1 _).setCell hBg1 _).setCell hBg1 _).setCell hBg1 _).setCell hBg1 _).setCell hBg1 _).setCell hBg1 _).setCell hBgb _
theorem added_done2 (h : RdI B r mb vt at_ (.slice (some ⟨gb, 0, none⟩) (rest.length + 1) cap) (f :: rest) w)
    (hf0 : FrRead w (fun b => ¬ Live r mb (.slice (some ⟨gb, 0, none⟩) (rest.length + 1) cap) (f :: rest) b) kv0 f0.kids)
    (hx : KidsC w (fun b => ¬ Live r mb (.slice (some ⟨gb, 0, none⟩) (rest.length + 1) cap) (f :: rest) b) f.kids xs) (hxl : xs.length = f.kids.length * 7)
    (hb2 : Below w.heap.size w W2) (h1 : w10.ownsRow B 52 7 (.slice (some ⟨g1, 0, none⟩) (f.kids.length + 1) cap1) (f.kids.length + 1) (xs ++ zFrag))
    (hg : (W2.alloc o).drew.grownBy w10 f.kv.ownBlock) (hat : f.kv.ownBlock = some g1 ∨ g1 = W2.heap.size + 1) (hne : g1 ≠ gb) :
    Added B r mb vt at_ (.slice (some ⟨gb, 0, none⟩) (rest.length + 1) cap) f rest f0 w
      ((((((((w10.setCell ⟨gb, rest.length * 8 + 6, none⟩ (.slice (some ⟨g1, 0, none⟩) (f.kids.length + 1) cap1)).setCell ⟨g1, f.kids.length * 7, none⟩ (.int .i64 f0.tok.kind)).setCell ⟨g1, f.kids.length * 7 + 1, none⟩ (.int .i64 f0.tok.num)).setCell ⟨g1, f.kids.length * 7 + 2, none⟩ (.string f0.tok.text)).setCell ⟨g1, f.kids.length * 7 + 3, none⟩ (.int .i64 f0.tok.at_)).setCell
        ⟨g1, f.kids.length * 7 + 4, none⟩ (.int .i64 f0.tok.mark)).setCell ⟨g1, f.kids.length * 7 + 5, none⟩ (.string f0.op)).setCell ⟨g1, f.kids.length * 7 + 6, none⟩ kv0) := by
  have hn : ∀ i j, (⟨gb, i, none⟩ : Addr).block ≠ (⟨g1, j, none⟩ : Addr).block := fun _ _ => Ne.symm hne
  rw [set_comm _ _ _ _ _ (hn _ _), set_comm _ _ _ _ _ (hn _ _), set_comm _ _ _ _ _ (hn _ _), set_comm _ _ _ _ _ (hn _ _), set_comm _ _ _ _ _ (hn _ _), set_comm _ _ _ _ _ (hn _ _), set_comm _ _ _ _ _ (hn _ _)]
  exact added_done h hf0 hx hxl hb2 h1 hg hat
end
end Go.Proofs.YtopbmndjnjnmcaaGreatDoor

/- (F9) -/
/- Package fragment: add. -/
namespace Go.Proofs.YtopbmndjnjnmcaaGreatDoor
open Go.RowKit Lx Go.Sort

attribute [local go_sem] Oper.semAt_some
attribute [local go_sem ↓] Go.wp_at_zero Go.wp_at_succ

theorem info52 : (Tryz.prog.info? 52).map (fun i => (i.zero, i.size, i.bytes)) = some (some (.agg zFrag.toArray), 7, 88) := by kernel_rfl

/-- The cells of the element that was appended. -/
theorem added_cells {W : World} {base n cap g : Nat} {xs : List Value} (hx : xs.length = n * 7) (h : W.ownsRow base 52 7 (.slice (some ⟨g, 0, none⟩) (n + 1) cap) (n + 1) (xs ++ zFrag)) :
    W.cell? ⟨g, n * 7, none⟩ = some (.int .i64 0) ∧ W.cell? ⟨g, n * 7 + 1, none⟩ = some (.int .i64 0) ∧ W.cell? ⟨g, n * 7 + 2, none⟩ = some (.string ⟨#[]⟩) ∧ W.cell? ⟨g, n * 7 + 3, none⟩ = some (.int .i64 0) ∧ W.cell? ⟨g, n * 7 + 4, none⟩ = some (.int .i64 0) ∧ W.cell? ⟨g, n * 7 + 5, none⟩ = some (.string ⟨#[]⟩) ∧ W.cell? ⟨g, n * 7 + 6, none⟩ = some (.slice none 0 0) := by
  have e : ∀ j, j < 7 → W.cell? ⟨g, n * 7 + j, none⟩ = zFrag[j]? := fun j hj => by
    rw [h.cellAt (n * 7 + j) (by omega), List.getElem?_append_right (by omega), hx, Nat.add_sub_cancel_left]
  exact ⟨e 0 (by omega), e 1 (by omega), e 2 (by omega), e 3 (by omega), e 4 (by omega), e 5 (by omega), e 6 (by omega)⟩

theorem added_ne {W W' : World} {o : Obj} {B base n cap n1 cap1 g1 gb : Nat} {v : Value} {xs ys : List Value} (h : W.ownsRow B 97 8 (.slice (some ⟨gb, 0, none⟩) n cap) n ys) (hlt : gb < W.heap.size) (hv : v.ownBlock ≠ some gb)
    (hg : (W.alloc o).drew.grownBy W' v.ownBlock) (h1 : W'.ownsRow base 52 7 (.slice (some ⟨g1, 0, none⟩) n1 cap1) n1 xs) : g1 ≠ gb := by
  intro he
  subst he
  obtain ⟨_, cs, hcs⟩ := owned_cells h (b := g1) rfl
  obtain ⟨_, cs', hcs'⟩ := owned_cells h1 (b := g1) rfl
  have := hg.block g1 (by show g1 < (W.alloc o).heap.size; rw [World.size_alloc]; omega) (Ne.symm hv)
  rw [this] at hcs'
  have h2 : (W.alloc o).heap[g1]? = W.heap[g1]? := (((Below.refl W.heap.size W).alloc (Nat.le_refl _) o).block g1 hlt)
  have h3 : (W.alloc o).heap[g1]? = some (.cells cs' 52 (0, 0)) := hcs'
  rw [h2, hcs] at h3
  simp at h3

set_option maxRecDepth 100000 in
set_option maxHeartbeats 8000000 in
/-- **add** -/
theorem add_any {B r mb : Nat} {vt gv : Value} {at_ : Int} {f : Gp} {rest : List Gp} {w : World} (h : RdI B r mb vt at_ gv (f :: rest) w) (f0 : Fr) (kv0 : Value)
    (hf0 : FrRead w (fun b => ¬ Live r mb gv (f :: rest) b) kv0 f0.kids) (hk : f.kids.length ≤ 6000) :
    Calls Tryz.prog 100 #[.pointer (some ⟨r, 0, none⟩), .agg (frC f0.tok f0.op kv0).toArray] w fun e W => e = .returned (.tuple #[]) ∧ Added B r mb vt at_ gv f rest f0 w W := by
  obtain ⟨ka, kc, rfl⟩ : ∃ a c, kv0 = .slice a f0.kids.length c := by obtain ⟨a, c, _, _, h, _⟩ := hf0; exact ⟨a, c, h⟩
  obtain ⟨i0, hi0, hz0, hz1, hz2⟩ := info_parts info52
  have hb1 := (Below.refl w.heap.size w).alloc (Nat.le_refl _) (.cells (frC f0.tok f0.op (.slice ka f0.kids.length kc)).toArray 52)
  obtain ⟨xs, hown, hkc⟩ := h.kids f (List.mem_cons_self)
  have h1 := h.bl hb1
  have hown1 := owns_bl' hown hb1
  obtain ⟨gb, cap, rfl, hc1, hc2, hB, hgbl, hcell⟩ := h1.head
  have hk6 : (w.alloc (.cells (frC f0.tok f0.op (.slice ka f0.kids.length kc)).toArray 52)).cell? ⟨gb, rest.length * 8 + 6, none⟩ = some f.kv := hcell 6 _ rfl
  have hrd := h1.rd
  obtain ⟨_, _, c2, _⟩ := rd_cells hrd
  have HW := Lib.hid h
  have HF := Lib.hid hf0
  have HO := Lib.hid hown1
  have HK := Lib.hid hkc
  have HN := Lib.hid (heap_alloc_new w (.cells (frC f0.tok f0.op (.slice ka f0.kids.length kc)).toArray 52))
  clear h h1 hown hown1 hkc hrd hcell hb1 hf0
  unfold frC at HN ⊢
  go_enter Tryz.func100, Tryz.ntmps100
  go_wp2_with fail
  go_at_call 74
  refine (inner_any r gb rest.length cap hc1 hc2 _ c2).mono ?_
  rintro e w9 ⟨rfl, k, rfl⟩
  go_wp2_with fail
  have hW : ((w.alloc (.cells (frC f0.tok f0.op (.slice ka f0.kids.length kc)).toArray 52)).drewN k).heap = (w.alloc (.cells (frC f0.tok f0.op (.slice ka f0.kids.length kc)).toArray 52)).heap := rfl
  obtain ⟨W2, hW2⟩ : ∃ W2, (w.alloc (.cells (frC f0.tok f0.op (.slice ka f0.kids.length kc)).toArray 52)).drewN k = W2 := ⟨_, rfl⟩
  rw [hW2] at hW ⊢
  have hown2 : W2.ownsRow B 52 7 f.kv f.kids.length xs := owns_keep HO.out fun b _ => by rw [hW]
  have k6 : W2.cell? ⟨gb, rest.length * 8 + 6, none⟩ = some f.kv := by rw [← hk6]; exact World.cell?_of_block (by rw [hW])
  have kn : W2.heap[w.heap.size]? = some (.cells (frC f0.tok f0.op (.slice ka f0.kids.length kc)).toArray 52 (0, 0)) := by rw [hW]; exact HN.out
  obtain ⟨va, vc, hkv⟩ : ∃ a c, f.kv = .slice a f.kids.length c := by
    rcases hown2.2 with ⟨h, h0⟩ | ⟨g, cap, cur, h, _⟩
    · exact ⟨_, _, by rw [h, h0]⟩
    · exact ⟨_, _, h⟩
  have hsz2 : W2.heap.size = w.heap.size + 1 := by rw [hW, World.size_alloc]
  have hgs : W2.ownsRow B 97 8 (.slice (some ⟨gb, 0, none⟩) (rest.length + 1) cap) (rest.length + 1) (gpsC (f :: rest)) := owns_keep (owns_bl' HW.out.gs ((Below.refl w.heap.size w).alloc (Nat.le_refl _) _)) fun b _ => by rw [hW]
  have hfz : W2.frozen? ⟨gb, rest.length * 8 + 6, none⟩ = false := hgs.frozenAt _
  have hlt2 : w.heap.size < W2.heap.size := by omega
  have HSZ := Lib.hid hsz2
  have HB2 : Hid (Below w.heap.size w W2) := Lib.hid (by rw [← hW2]; exact below_drewN ((Below.refl w.heap.size w).alloc (Nat.le_refl _) _) k)
  clear HO HN hW hW2 c2 hk6 hsz2
  rw [hkv] at k6
  have n0 : W2.cell? ⟨w.heap.size, 0, none⟩ = some (.int .i64 f0.tok.kind) := by rw [cell_of_row _ _ _ _ _ _ kn]; rfl
  have n1 : W2.cell? ⟨w.heap.size, 1, none⟩ = some (.int .i64 f0.tok.num) := by rw [cell_of_row _ _ _ _ _ _ kn]; rfl
  have n2 : W2.cell? ⟨w.heap.size, 2, none⟩ = some (.string f0.tok.text) := by rw [cell_of_row _ _ _ _ _ _ kn]; rfl
  have n3 : W2.cell? ⟨w.heap.size, 3, none⟩ = some (.int .i64 f0.tok.at_) := by rw [cell_of_row _ _ _ _ _ _ kn]; rfl
  have n4 : W2.cell? ⟨w.heap.size, 4, none⟩ = some (.int .i64 f0.tok.mark) := by rw [cell_of_row _ _ _ _ _ _ kn]; rfl
  have n5 : W2.cell? ⟨w.heap.size, 5, none⟩ = some (.string f0.op) := by rw [cell_of_row _ _ _ _ _ _ kn]; rfl
  have n6 : W2.cell? ⟨w.heap.size, 6, none⟩ = some (.slice ka f0.kids.length kc) := by rw [cell_of_row _ _ _ _ _ _ kn]; rfl
  have HO := Lib.hid hown2
  have HG := Lib.hid hgs
  have HKV := Lib.hid hkv
  clear hown2 hgs kn hkv
  have hB2 : B ≤ W2.heap.size := by have := HW.out.base.2; omega
  have hxl : xs.length = f.kids.length * 7 := HO.out.1
  have HXL := Lib.hid hxl
  clear hxl
  have hgb2 : gb < W2.heap.size := by obtain ⟨_, cs, hcs⟩ := owned_cells HG.out (b := gb) rfl; exact (Array.getElem?_eq_some_iff.1 hcs).1
  have hgne : f.kv.ownBlock ≠ some gb := fun e => (HW.out.diff.2.2 f (List.mem_cons_self) gb e).2.2 rfl
  have i1 : (f.kids.length : Int) < (f.kids.length : Int) + 1 := by omega
  have i2 : f.kids.length < f.kids.length + 1 := by omega
  have i3 : (0 : Int) ≤ (f.kids.length : Int) := by omega
  go_region_law (first
    | (refine step_append_lies _ (by rfl) _ _ _ (by rfl) B 52 i0 _ 7 88 Tryz.underlying25 hi0 hz0 hz1 hz2 rfl (by omega) f.kv f.kids.length xs (by exact HKV.out.symm) ((HO.out.alloc _).drew) ⟨W2.heap.size, 0, none⟩ 1 1 zFrag (by rfl) (by rfl) (World.news_of_block (cs := zFrag.toArray) (t := 52) (fr := (0, 0)) (heap_alloc_new W2 _)) (by simp [zFrag, Value.oneCell']) (by omega) (by unfold maxLen; omega) (by omega) (by show B ≤ (W2.alloc _).heap.size; rw [World.size_alloc]; exact Nat.le_succ_of_le hB2) (W2.heap.size + 1) (World.size_alloc _ _) ?_; intro g1 cap1 w10 hown1 hgrow hat hgl; have fz := hown1.frozenAt; have z0 := added_cells HXL.out hown1; have k7 : w10.cell? ⟨gb, rest.length * 8 + 6, none⟩ = _ := (hgrow.cell_far ⟨gb, rest.length * 8 + 6, none⟩ (by show gb < (W2.alloc _).heap.size; rw [World.size_alloc]; omega) (Ne.symm hgne)).trans ((Below.heap_alloc_cell W2 _ ⟨gb, rest.length * 8 + 6, none⟩ hgb2).trans k6); have kz := (hgrow.frozen_far ⟨gb, rest.length * 8 + 6, none⟩ (by show gb < (W2.alloc _).heap.size; rw [World.size_alloc]; omega) (Ne.symm hgne)).trans ((((Below.refl W2.heap.size W2).alloc (Nat.le_refl _) _).frozen (p := ⟨gb, rest.length * 8 + 6, none⟩) hgb2).trans hfz); have hne := added_ne HG.out hgb2 hgne hgrow hown1; have hne2 := Ne.symm hne))
  all_goals
    go_end0
    refine ⟨rfl, ?_⟩
    first
      | with_reducible exact added_done HW.out HF.out HK.out HXL.out HB2.out hown1 hgrow hat
      | with_reducible exact added_done2 HW.out HF.out HK.out HXL.out HB2.out hown1 hgrow hat hne
end Go.Proofs.YtopbmndjnjnmcaaGreatDoor
