/-
  Several parts put together: V8, V9.
-/
import Derived.Test.YtbhcchpkpclghaaGreatDoorGR
import Derived.Test.YtbhcchpkpclghaaGreatDoorGP
/- Part V8. -/

namespace Go.Proofs.YtbhcchpkpclghaaGreatDoor
open Go.RowKit Nd
end Go.Proofs.YtbhcchpkpclghaaGreatDoor

/- Part V9. -/

namespace Go.Proofs.YtbhcchpkpclghaaGreatDoor
open Go.RowKit Nd
end Go.Proofs.YtbhcchpkpclghaaGreatDoor
