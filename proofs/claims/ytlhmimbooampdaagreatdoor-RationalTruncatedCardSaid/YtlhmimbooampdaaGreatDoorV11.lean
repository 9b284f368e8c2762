/-
  The reference: Int64.
-/
import Derived.Test.YtlhmimbooampdaaGreatDoorV10
import Derived.Test.YtlhmimbooampdaaGreatDoorGQ
namespace Go.Proofs.YtlhmimbooampdaaGreatDoor
open Go.RowKit Nd
end Go.Proofs.YtlhmimbooampdaaGreatDoor
