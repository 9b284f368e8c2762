/-
  Several parts put together: V8, V9.
-/
import Derived.Test.YtlhmimbooampdaaDoorGR
import Derived.Test.YtlhmimbooampdaaDoorGP
/- Part V8. -/

namespace Go.Proofs.YtlhmimbooampdaaDoor
open Go.RowKit Nd
end Go.Proofs.YtlhmimbooampdaaDoor

/- Part V9. -/

namespace Go.Proofs.YtlhmimbooampdaaDoor
open Go.RowKit Nd
end Go.Proofs.YtlhmimbooampdaaDoor
