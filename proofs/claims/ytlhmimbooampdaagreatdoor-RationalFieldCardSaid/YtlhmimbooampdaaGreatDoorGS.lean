/-
  Several parts put together: V8, V9.
-/
import Derived.Test.YtlhmimbooampdaaGreatDoorGR
import Derived.Test.YtlhmimbooampdaaGreatDoorGP
/- Part V8. -/

namespace Go.Proofs.YtlhmimbooampdaaGreatDoor
open Go.RowKit Nd
end Go.Proofs.YtlhmimbooampdaaGreatDoor

/- Part V9. -/

namespace Go.Proofs.YtlhmimbooampdaaGreatDoor
open Go.RowKit Nd
end Go.Proofs.YtlhmimbooampdaaGreatDoor
