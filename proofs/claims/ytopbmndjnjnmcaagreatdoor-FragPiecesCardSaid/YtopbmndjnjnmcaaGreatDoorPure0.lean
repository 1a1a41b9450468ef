/- The functions of package lex, written over lists of bytes. Nothing of the program is named here. -/
namespace Go.Proofs.YtopbmndjnjnmcaaGreatDoor.Lx

abbrev Bs := List UInt8

def cSmall (n : Nat) : Bool := decide (97 ≤ n) && decide (n ≤ 122)
def cDigit (n : Nat) : Bool := decide (48 ≤ n) && decide (n ≤ 57)
def cFin (n : Nat) : Bool := cSmall n || cDigit n || [33, 36, 38, 42, 60, 62, 124, 94, 37, 95, 126, 63].contains n
def cWord (n : Nat) : Bool := cFin n || [43, 45, 47, 61].contains n
def cFront (n : Nat) : Bool := [60, 36, 37, 42, 95].contains n
def cPart (n : Nat) : Bool := cSmall n || cDigit n || n == 45
def cStuck (n : Nat) : Bool := cSmall n || [95, 63, 33, 36].contains n
def cBlank (n : Nat) : Bool := [32, 9, 10, 13].contains n

/-- The class of a number, as the constants of the program count them. -/
def qCls : Nat → Nat → Bool
  | 0, n => cSmall n
  | 1, n => cDigit n
  | 2, n => cWord n
  | 3, n => cFin n
  | 4, n => cFront n
  | 5, n => cPart n
  | 6, n => cStuck n
  | _, n => cBlank n

end Go.Proofs.YtopbmndjnjnmcaaGreatDoor.Lx
