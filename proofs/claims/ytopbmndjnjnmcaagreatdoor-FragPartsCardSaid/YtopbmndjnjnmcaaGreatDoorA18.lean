/- Package lex: Pieces of any text. -/
import Derived.Test.YtopbmndjnjnmcaaGreatDoorA17
namespace Go.Proofs.YtopbmndjnjnmcaaGreatDoor
open Go.RowKit Lx

attribute [local go_sem] Oper.semAt_some

end Go.Proofs.YtopbmndjnjnmcaaGreatDoor
