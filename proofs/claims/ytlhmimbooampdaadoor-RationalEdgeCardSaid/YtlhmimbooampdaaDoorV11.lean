/-
  The reference: Int64.
-/
import Derived.Test.YtlhmimbooampdaaDoorV10
import Derived.Test.YtlhmimbooampdaaDoorGQ
namespace Go.Proofs.YtlhmimbooampdaaDoor
open Go.RowKit Nd
end Go.Proofs.YtlhmimbooampdaaDoor
