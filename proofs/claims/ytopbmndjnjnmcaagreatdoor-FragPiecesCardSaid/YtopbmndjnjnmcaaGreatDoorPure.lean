import Derived.Test.YtopbmndjnjnmcaaGreatDoorPure0
/- The lexical rules of package lex over lists of bytes. Nothing of the program is named here. -/
namespace Go.Proofs.YtopbmndjnjnmcaaGreatDoor.Lx

/-- How many bytes at the head are of a class. -/
def qRun (k : Nat) : Bs → Nat
  | [] => 0
  | b :: t => if qCls k b.toNat then qRun k t + 1 else 0

/-- One turn of the loop of plain: what size and letter become behind byte b at index i; none where the loop is left. -/
def qStep (b : UInt8) (i size : Nat) (letter : Bool) : Option (Nat × Bool) :=
  if !cWord b.toNat || (i == 0 && !cSmall b.toNat && !cFront b.toNat) then none
  else some (if (letter || cSmall b.toNat) && cFin b.toNat then i + 1 else size, letter || cSmall b.toNat)

def qGo : Bs → Nat → Nat → Bool → Nat
  | [], _, size, _ => size
  | b :: t, i, size, letter =>
    match qStep b i size letter with
    | none => size
    | some (size', letter') => qGo t (i + 1) size' letter'

def qPlain (s : Bs) : Nat := qGo s 0 0 false

def qColon (s : Bs) : Bool := s.head? == some 58 && !(s[1]? == some 58) && !(s[1]? == some 61)

def qName (s : Bs) : Nat :=
  let n := qPlain s
  if decide (0 < n) && s[n]? == some 64 && (match s[n + 1]? with | some b => cSmall b.toNat || cDigit b.toNat | none => false) then n + 2 + qRun 5 (s.drop (n + 2)) else n

def qInt (s : Bs) (operand : Bool) : Nat :=
  let g := if s.head? == some 45 && !operand then 1 else 0
  let n := qRun 1 (s.drop g)
  if 0 < n then g + n else 0

def qKey (s : Bs) : Nat :=
  let n := qPlain s
  if decide (0 < n) && qColon (s.drop n) then n + 1 else 0

def qHash (s : Bs) : Nat := if s.take 2 == [35, 116] || s.take 2 == [35, 102] then 2 else 0

def qTwo : List Bs := [[58, 61], [58, 58], [61, 62], [61, 61], [60, 61], [62, 61]]
def qOne : Bs := [40, 41, 91, 93, 123, 125, 44, 59, 46, 61, 60, 62, 43, 45, 42, 47, 38, 124, 126, 63]
def qSign (s : Bs) : Nat :=
  if qTwo.contains (s.take 2) then 2
  else match s.head? with
    | some b => if qOne.contains b then 1 else 0
    | none => 0

def qPat (s : Bs) : Nat :=
  if s.head? == some 63 then
    let n := qPlain (s.drop 1)
    if n = 0 then 0
    else
      let k := qPlain (s.drop (n + 2))
      if qColon (s.drop (n + 1)) && decide (0 < k) then n + 2 + k else n + 1
  else 0

/-- The rules in their order: a longer one wins. -/
def qBetter (p : Nat × Nat) (kind n : Nat) : Nat × Nat := if p.2 < n then (kind, n) else p
def qLongest (s : Bs) (operand : Bool) : Nat × Nat :=
  qBetter (qBetter (qBetter (qBetter (qBetter (qBetter (0, 0) 1 (qName s)) 2 (qInt s operand)) 3 (qKey s)) 4 (qHash s)) 5 (qSign s)) 6 (qPat s)

end Go.Proofs.YtopbmndjnjnmcaaGreatDoor.Lx
