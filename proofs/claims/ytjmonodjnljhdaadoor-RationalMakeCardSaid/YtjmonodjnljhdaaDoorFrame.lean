/-
  The frame of the laws: imports, the witness's world, facts on the program that every card asks.
-/
import Derived.Test.YtjmonodjnljhdaaDoorW17
import Derived.Test.YtjmonodjnljhdaaDoorRows
import Derived.Test.YtjmonodjnljhdaaDoorTie
import Derived.Test.YtjmonodjnljhdaaDoorCards
import Derived.ProofKit
import Derived.ShutString
import Derived.PinnedBridge
import Derived.Lay
import Derived.LaidOnce
import Derived.SevenTiedAt
namespace Go.Proofs.YtjmonodjnljhdaaDoor
open Go.RowKit Nd

theorem own : ownKnob Tryd.prog.godebug = none := by kernel_rfl
def laid : List (String × DataW Unit) := Rows.naturalQuotientRow.laid
set_option maxRecDepth 100000 in
theorem wit_shaped (os : Os) (args : Array Value) : ((World.laidAll Tryd.prog os laid).forCall (fun _ _ => 0) ⟨#[], args, []⟩).Shaped Tryd.prog :=
  World.shaped_of_ZipB (by kernel_rfl) (by kernel_rfl)
set_option maxRecDepth 100000 in
theorem wit_laid (os : Os) (args : Array Value) : laidMetH Tryd.prog laid ((World.laidAll Tryd.prog os laid).forCall (fun _ _ => 0) ⟨#[], args, []⟩).memory := by
  rw [MakeChecks.laidMetH_plain _ _ _ (by kernel_rfl)]; exact laidMet_laidAll _ (by kernel_rfl) (by kernel_rfl)
theorem main_is : Tryd.prog.mainIs = some (true, "f2e377b600c6341febe1e1da9daad75950a9ca3bd4fd48219017b3341cf17679".toList) := by kernel_rfl
theorem looks_nil : false = Tryd.prog.looks [] := by kernel_rfl
theorem no_stand_in : ([9, 5].all fun u => !Tryd.prog.wantsStandIn u) = true := by kernel_rfl

end Go.Proofs.YtjmonodjnljhdaaDoor
