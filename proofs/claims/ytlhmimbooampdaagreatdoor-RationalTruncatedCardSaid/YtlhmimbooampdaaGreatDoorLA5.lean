/-
  Law: Int64.
-/
import Derived.Test.YtlhmimbooampdaaGreatDoorLA1
import Derived.Test.YtlhmimbooampdaaGreatDoorV11
import Derived.Test.YtlhmimbooampdaaGreatDoorGJ
namespace Go.Proofs.YtlhmimbooampdaaGreatDoor
open Go.RowKit Nd
theorem bd_int {n : Int} (h1 : -9223372036854775808 ≤ n) (h2 : n ≤ 9223372036854775807) : Bd 8 (n : Rat) := by
  refine ⟨?_, ?_⟩
  · rw [Rat.num_intCast]
    have : (256 : Nat) ^ 8 = 18446744073709551616 := by decide
    omega
  · rw [Rat.den_intCast]; decide
theorem i64_int {n : Int} (h1 : -9223372036854775808 ≤ n) (h2 : n ≤ 9223372036854775807) : i64ok (n : Rat) = true ∧ i64v (n : Rat) = n := by
  have := i64_t (p := (n : Rat)) (Rat.den_intCast n) (by rw [Rat.num_intCast]; exact h1) (by rw [Rat.num_intCast]; exact h2)
  rwa [Rat.num_intCast] at this
theorem IntN (n : Int) (w : World) (h1 : -9223372036854775808 ≤ n) (h2 : n ≤ 9223372036854775807) :
    Calls Tryz.prog 17 #[.int .i64 n] w fun e w' => ∃ z, e = .returned (.agg #[.bool z.neg, .string z.num, .string z.den]) ∧ Val z (n : Rat) 8 ∧ Chg [] w w' := by
  refine (Int_any n w h1 h2).mono ?_
  rintro e w1 ⟨z, rfl, hz, c1⟩
  exact ⟨z, rfl, ⟨hz, bd_int h1 h2⟩, c1⟩
end Go.Proofs.YtlhmimbooampdaaGreatDoor
