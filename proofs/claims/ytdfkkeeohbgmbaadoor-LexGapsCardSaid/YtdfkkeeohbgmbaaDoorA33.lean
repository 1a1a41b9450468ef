/- Package lex: pieces well ahead of a splice are kept. -/
import Derived.Test.YtdfkkeeohbgmbaaDoorA29
namespace Go.Proofs.YtdfkkeeohbgmbaaDoor
open Go.RowKit Lx

theorem qFrom_follow (l : Bs) (x : St) (hx : x.i ≤ l.length) : Follow l.length x.i (qFrom l x).1 :=
  (qCutAll_follow l _ x (by omega) hx).1

theorem Follow.after {m : Nat} : ∀ {ps : List Pc} {a : Nat}, Follow m a ps → ∀ {k : Nat} {p : Pc}, ps[k]? = some p → a ≤ p.at_
  | [], _, _, k, p, h => by simp at h
  | q :: r, a, ⟨h1, h2, h3, h4, h5, h6⟩, 0, p, h => by
    simp at h; subst h; omega
  | q :: r, a, ⟨h1, h2, h3, h4, h5, h6⟩, k + 1, p, h => by
    have := h6.after (k := k) (p := p) (by simpa using h)
    omega

/-- Pieces that end well ahead of a place up to which two texts agree are at the front of both. -/
theorem front_local {l l' : Bs} {N : Nat} (h : l.take N = l'.take N) (hN : N ≤ l.length) :
    ∀ (ps qs : List Pc) (x : St), qFrom l x = (ps, none) → qFrom l' x = (qs, none) → ∀ (k : Nat) (p : Pc), ps[k]? = some p → p.at_ + p.len + 100 < N → k < qFront (ps.map Pc.n) (qs.map Pc.n) := by
  have hN' : N ≤ l'.length := by
    have := congrArg List.length h
    simp only [List.length_take] at this
    omega
  intro ps
  induction ps with
  | nil => intro qs x _ _ k p hp; simp at hp
  | cons p0 r ih =>
    intro qs x h1 h2 k p hp hend
    obtain ⟨a1, a2, a3, a4, a5⟩ := qFrom_inv h1
    have hlen := qNext_len l x.i x.op a1 a2
    have hai : (qAfter l x p0.kind p0.len).i = x.i + p0.len := qAfter_i _ _ _ _
    have hp0 : p0.at_ = x.i ∧ p0.len = (qNext l x.i x.op).len ∧ p0.kind = (qNext l x.i x.op).kind := by rw [a4]; exact ⟨rfl, rfl, rfl⟩
    have hle : x.i + p0.len ≤ p.at_ + p.len := by
      cases k with
      | zero => simp at hp; subst hp; omega
      | succ k =>
        have hf := qFrom_follow l (qAfter l x p0.kind p0.len) (by omega)
        rw [a5] at hf
        have := hf.after (k := k) (p := p) (by simpa using hp)
        omega
    have hn := qNext_agree l l' N x.i x.op h hN a2 (by omega)
    cases qs with
    | nil => have := qFrom_nil h2; omega
    | cons q0 s =>
      obtain ⟨b1, b2, b3, b4, b5⟩ := qFrom_inv h2
      rw [hn] at b4
      have hq : q0 = p0 := by rw [a4, b4]
      subst hq
      rw [qAfter_agree x h (by omega)] at b5
      simp only [List.map_cons, qFront, if_true]
      cases k with
      | zero => omega
      | succ k =>
        have := ih s _ a5 b5 k p (by simpa using hp) hend
        omega

theorem back_le (sh : Int) : ∀ (n : Nat) (xs ys : List Pn), qBack sh n xs ys ≤ n := by
  intro n
  induction n with
  | zero => intro xs ys; cases xs <;> cases ys <;> simp [qBack]
  | succ n ih =>
    intro xs ys
    cases xs with
    | nil => simp [qBack]
    | cons a r =>
      cases ys with
      | nil => simp [qBack]
      | cons b s =>
        rw [qBack]; split
        · have := ih r s; omega
        · omega

theorem kept_le (xs ys : List Pn) (sh : Int) : (qKept xs ys sh).1 + (qKept xs ys sh).2 ≤ xs.length := by
  have h1 := front_le xs ys
  have h2 := back_le sh (min xs.length ys.length - qFront xs ys) xs.reverse ys.reverse
  unfold qKept
  simp only
  omega

/-- **Local** -/
theorem kept_local (s ins : ByteArray) (x d : Nat) (hx : x ≤ s.size) (h1 : (qPieces s.data.toList).2 = none) (h2 : (qPieces (spliced s x d ins).data.toList).2 = none) (sh : Int) (k : Nat) (p : Pc)
    (hp : (qPieces s.data.toList).1[k]? = some p) (hend : p.at_ + p.len + 101 < x) :
    k < (qKept ((qPieces s.data.toList).1.map Pc.n) ((qPieces (spliced s x d ins).data.toList).1.map Pc.n) sh).1 := by
  have s1 := qPieces_small _ h1
  have s2 := qPieces_small _ h2
  have e1 : qPieces s.data.toList = qFrom s.data.toList ⟨0, 0, false⟩ := if_neg (by omega)
  have e2 : qPieces (spliced s x d ins).data.toList = qFrom (spliced s x d ins).data.toList ⟨0, 0, false⟩ := if_neg (by omega)
  have hag : s.data.toList.take x = (spliced s x d ins).data.toList.take x := by
    rw [spliced_list, List.append_assoc, List.take_append_of_le_length (by simp; omega), List.take_take, Nat.min_self]
  exact front_local hag (by simpa using hx) _ _ ⟨0, 0, false⟩ (by rw [← e1]; exact Prod.ext rfl h1) (by rw [← e2]; exact Prod.ext rfl h2) k p hp (by omega)
end Go.Proofs.YtdfkkeeohbgmbaaDoor
