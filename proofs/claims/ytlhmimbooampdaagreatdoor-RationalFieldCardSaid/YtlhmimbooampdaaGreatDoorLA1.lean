/-
  Laws: Arithmetic, Order.
-/
import Derived.Test.YtlhmimbooampdaaGreatDoorGS
import Derived.Test.YtlhmimbooampdaaGreatDoorGN
namespace Go.Proofs.YtlhmimbooampdaaGreatDoor
open Go.RowKit Nd
theorem Rats.two (w : World) (x y : Q3) (e : TypeId) : Rats (w.alloc (.cells #[.bool x.neg, .string x.num, .string x.den, .bool y.neg, .string y.num, .string y.den] e)) w.heap.size [x, y] := by
  refine ⟨by simp, fun j hj => ?_⟩
  have hj2 : j = 0 ∨ j = 1 := by simp at hj; omega
  rcases hj2 with rfl | rfl <;> simp

theorem Rats.three (w : World) (x y z : Q3) (e : TypeId) : Rats (w.alloc (.cells #[.bool x.neg, .string x.num, .string x.den, .bool y.neg, .string y.num, .string y.den, .bool z.neg, .string z.num, .string z.den] e)) w.heap.size [x, y, z] := by
  refine ⟨by simp, fun j hj => ?_⟩
  have hj2 : j = 0 ∨ j = 1 ∨ j = 2 := by simp at hj; omega
  rcases hj2 with rfl | rfl | rfl <;> simp

end Go.Proofs.YtlhmimbooampdaaGreatDoor
