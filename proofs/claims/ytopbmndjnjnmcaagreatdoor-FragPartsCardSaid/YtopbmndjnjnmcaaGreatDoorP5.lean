/- The pure reader does not look at marks and offsets. -/
import Derived.Test.YtopbmndjnjnmcaaGreatDoorMA
namespace Go.Proofs.YtopbmndjnjnmcaaGreatDoor
open Go.RowKit Lx Go.Sort

/-- A token without its offset and mark, where they are from 0 on. -/
def nz (t : Tok) : Tok := if 0 ≤ t.at_ ∧ 0 ≤ t.mark then ⟨t.kind, t.num, t.text, 0, 0⟩ else t
theorem nz_kind (t : Tok) : (nz t).kind = t.kind := by unfold nz; split <;> rfl
theorem nz_num (t : Tok) : (nz t).num = t.num := by unfold nz; split <;> rfl
theorem nz_text (t : Tok) : (nz t).text = t.text := by unfold nz; split <;> rfl
theorem nz_ok (t : Tok) : tokOk (nz t) = tokOk t := by
  unfold nz
  split
  · rename_i h
    unfold tokOk
    rw [show decide (t.at_ < 0) = false from decide_eq_false (by omega), show decide (t.mark < 0) = false from decide_eq_false (by omega)]
    rfl
  · rfl
mutual
def frz : Fr → Fr
  | .mk t o ks => .mk (nz t) o (frzs ks)
def frzs : List Fr → List Fr
  | [] => []
  | f :: r => frz f :: frzs r
end
theorem frzs_app : ∀ a b : List Fr, frzs (a ++ b) = frzs a ++ frzs b
  | [], b => rfl
  | f :: a, b => by simp only [List.cons_append, frzs, frzs_app a b]
theorem frzs_len : ∀ a : List Fr, (frzs a).length = a.length
  | [] => rfl
  | f :: a => by simp only [frzs, List.length_cons, frzs_len a]
def gz (g : Grp) : Grp := ⟨nz g.tok, g.op, frzs g.kids, g.from_⟩
def sz (s : Rst) : Rst := ⟨s.at_, gz s.g, s.stk.map gz⟩
def rz : Rs → Rs
  | .ok s => .ok (sz s)
  | .bad e i => .bad e i

theorem isNm_nz (t : Tok) (nm : ByteArray) : isNm (nz t) nm = isNm t nm := by unfold isNm; rw [nz_kind, nz_text]
theorem isStop_nz (t : Tok) : isStop (nz t) = isStop t := by unfold isStop isSg; rw [nz_kind, nz_text, isNm_nz]
theorem isCl_nz (t : Tok) : isCl (nz t) = isCl t := by unfold isCl; rw [nz_text]
variable (ts : List Tok)
theorem nextAre_nz : ∀ (names : List ByteArray) (i : Nat), nextAre (ts.map nz) i names = nextAre ts i names
  | [], _ => rfl
  | nm :: r, i => by
    simp only [nextAre, nextAre_nz r, List.getElem?_map]
    cases ts[i + 1]? with
    | none => rfl
    | some t => simp only [Option.map_some, isNm_nz]
theorem stopsAt_nz (i : Nat) : stopsAt (ts.map nz) i = stopsAt ts i := by
  unfold stopsAt
  rw [List.getElem?_map]
  cases ts[i]? with
  | none => rfl
  | some t => exact isStop_nz t
theorem closeTok_text (t t' : Tok) (op : ByteArray) : (closeTok t op).text = (closeTok t' op).text := by
  unfold closeTok
  split
  · rfl
  · split
    · rfl
    · split <;> rfl
theorem addF_gz (g : Grp) (f : Fr) : addF (gz g) (frz f) = gz (addF g f) := by
  unfold addF gz
  simp only [frzs_app, frzs]
theorem pEnd_nz (s : Rst) : pEnd (ts.map nz) (sz s) = rz (pEnd ts s) := by
  obtain ⟨i, g, stk⟩ := s
  unfold pEnd sz
  simp only [List.getElem?_map]
  cases stk with
  | nil => rfl
  | cons g2 r =>
    cases ts[i]? with
    | none => rfl
    | some t =>
      simp only [List.map_cons, Option.map_some]
      rw [closeTok_text (gz g).tok g.tok, nz_text]
      show (if ((closeTok g.tok g.op).text.toList != t.text.toList) = true then _ else _) = _
      split
      · rfl
      · show Rs.ok _ = Rs.ok _
        unfold sz
        simp only [← addF_gz]
        rfl
theorem pDrop_nz : ∀ (n : Nat) (s : Rst), pDrop (ts.map nz) n (sz s) = rz (pDrop ts n s)
  | 0, s => rfl
  | n + 1, s => by
    simp only [pDrop]
    show (match (ts.map nz)[s.at_ + 1]? with | some t => _ | none => _) = _
    rw [List.getElem?_map]
    cases ts[s.at_ + 1]? with
    | none => rfl
    | some t =>
      simp only [Option.map_some, nz_ok]
      split
      · exact pDrop_nz n ⟨s.at_ + 1, s.g, s.stk⟩
      · rfl
theorem repeats_nz (op : ByteArray) (kids : List Fr) : repeats op (frzs kids) = repeats op kids := by
  cases kids with
  | nil => rfl
  | cons f r =>
    obtain ⟨t, o, ks⟩ := f
    unfold repeats
    simp only [frzs, frz, Fr.op, Fr.tok, nz_kind, nz_text]
    rfl
theorem pNamed_nz (s : Rst) : pNamed (ts.map nz) (sz s) = rz (pNamed ts s) := by
  unfold pNamed
  rw [pEnd_nz]
  cases pEnd ts s with
  | bad e i => rfl
  | ok s1 =>
    simp only [rz]
    rw [show repeats (sz s).g.op (sz s).g.kids = repeats s.g.op s.g.kids from repeats_nz _ _]
    simp only [nextAre_nz, stopsAt_nz]
    show (match (repeats s.g.op s.g.kids).find? (fun names => nextAre ts s.at_ names && stopsAt ts (s.at_ + 1 + names.length)) with | some names => _ | none => _) = _
    cases (repeats s.g.op s.g.kids).find? (fun names => nextAre ts s.at_ names && stopsAt ts (s.at_ + 1 + names.length)) with
    | none => rfl
    | some names => exact pDrop_nz ts names.length s1
theorem pOpens_nz (ws : List ByteArray) (s : Rst) (t : Tok) : pOpens (ts.map nz) ws (sz s) (nz t) = pOpens ts ws s t := by
  unfold pOpens
  rw [nz_text, nz_kind, nextAre_nz]
  rfl
theorem pTake_nz (ws : List ByteArray) (s : Rst) : pTake (ts.map nz) ws (sz s) = rz (pTake ts ws s) := by
  unfold pTake
  show (match (ts.map nz)[s.at_]? with | none => _ | some t => _) = _
  rw [List.getElem?_map]
  cases ts[s.at_]? with
  | none => rfl
  | some t =>
    simp only [Option.map_some]
    rw [isCl_nz, pOpens_nz]
    split
    · show (match clo ws s.g.op.toList with | none => _ | some false => _ | some true => _) = _
      cases clo ws s.g.op.toList with
      | none => rfl
      | some b =>
        cases b
        · exact pEnd_nz ts s
        · exact pNamed_nz ts s
    · split
      · show (if 100 < (s.stk.map gz).length + 1 then _ else _) = _
        rw [List.length_map]
        split
        · rfl
        · show Rs.ok _ = Rs.ok _
          unfold sz
          simp only [List.map_cons, nz_text]
          rfl
      · show Rs.ok _ = Rs.ok _
        unfold sz
        simp only [← addF_gz]
        rfl
theorem pCheck_nz (i : Nat) : pCheck (ts.map nz) i = pCheck ts i := by
  unfold pCheck
  rw [List.getElem?_map]
  cases ts[i]? with
  | none => rfl
  | some t => exact nz_ok t
theorem pGo_nz (ws : List ByteArray) : ∀ (n : Nat) (s : Rst), pGo (ts.map nz) ws n (sz s) = rz (pGo ts ws n s)
  | 0, s => rfl
  | n + 1, s => by
    simp only [pGo, List.length_map]
    show (if s.at_ < ts.length then _ else _) = _
    split
    · show (if pCheck (ts.map nz) s.at_ = true then _ else _) = _
      rw [pCheck_nz]
      split
      · rw [pTake_nz]
        cases pTake ts ws s with
        | bad e i => rfl
        | ok s' => exact pGo_nz ws n ⟨s'.at_ + 1, s'.g, s'.stk⟩
      · rfl
    · rfl
def rdz : Rd → Rd
  | .ok l => .ok (frzs l)
  | .bad e i => .bad e i
/-- **THE READER DOES NOT LOOK AT OFFSETS AND MARKS.** -/
theorem pRead_nz (ws : List ByteArray) : pRead (ts.map nz) ws = rdz (pRead ts ws) := by
  unfold pRead
  rw [List.length_map]
  split
  · rfl
  · split
    · rfl
    · unfold pRead0
      rw [List.length_map]
      have h := pGo_nz ts ws ts.length st0
      rw [show sz st0 = st0 from rfl] at h
      rw [h]
      cases pGo ts ws ts.length st0 with
      | bad e i => rfl
      | ok s =>
        show (if (s.stk.map gz).length = 0 then _ else _) = _
        rw [List.length_map]
        show _ = rdz (if s.stk.length = 0 then .ok s.g.kids else .bad 21 s.g.from_)
        split <;> rfl
end Go.Proofs.YtopbmndjnjnmcaaGreatDoor
