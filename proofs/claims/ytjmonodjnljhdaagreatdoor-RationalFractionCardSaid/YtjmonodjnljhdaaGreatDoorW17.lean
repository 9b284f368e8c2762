/-
  Walks: awake, the examples of the chapter; few.
-/
import Derived.Test.YtjmonodjnljhdaaGreatDoorW16
namespace Go.Proofs.YtjmonodjnljhdaaGreatDoor
open Go.RowKit Nd

theorem Is_lit (s : ByteArray) (n : Nat) (h1 : val s = n) (h2 : nolead s.data.toList) : Is s n := ⟨h1, h2⟩

/-- All strings have at most 60 bytes. -/
def fewB (ss : List ByteArray) : Bool := ss.all fun s => decide (s.size ≤ 60)

theorem cell_alloc_strs (w : World) (cs : Array Value) (e : TypeId) (ss : List ByteArray) (hcs : cs = (ss.map Value.string).toArray) :
    ∀ j, j < ss.length → (w.alloc (.cells cs e)).cell? ⟨w.heap.size, j, none⟩ = some (.string (ss.getD j ByteArray.empty)) := by
  intro j hj
  rw [cell_of_row _ _ _ _ _ _ (heap_alloc_new w _), hcs]
  simp [List.getD, hj]

end Go.Proofs.YtjmonodjnljhdaaGreatDoor
