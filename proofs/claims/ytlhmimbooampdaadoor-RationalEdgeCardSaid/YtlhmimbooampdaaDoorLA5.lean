/-
  Law: Int64.
-/
import Derived.Test.YtlhmimbooampdaaDoorLA1
import Derived.Test.YtlhmimbooampdaaDoorV11
import Derived.Test.YtlhmimbooampdaaDoorGJ
namespace Go.Proofs.YtlhmimbooampdaaDoor
open Go.RowKit Nd
theorem bd_int {n : Int} (h1 : -9223372036854775808 ≤ n) (h2 : n ≤ 9223372036854775807) : Bd 8 (n : Rat) := by
  refine ⟨?_, ?_⟩
  · rw [Rat.num_intCast]
    have : (256 : Nat) ^ 8 = 18446744073709551616 := by decide
    omega
  · rw [Rat.den_intCast]; decide
theorem i64_int {n : Int} (h1 : -9223372036854775808 ≤ n) (h2 : n ≤ 9223372036854775807) : i64ok (n : Rat) = true ∧ i64v (n : Rat) = n := by
  have := i64_t (p := (n : Rat)) (Rat.den_intCast n) (by rw [Rat.num_intCast]; exact h1) (by rw [Rat.num_intCast]; exact h2)
  rwa [Rat.num_intCast] at this
theorem IntN (n : Int) (w : World) (h1 : -9223372036854775808 ≤ n) (h2 : n ≤ 9223372036854775807) :
    Calls Tryd.prog 5 #[.int .i64 n] w fun e w' => ∃ z, e = .returned (.agg #[.bool z.neg, .string z.num, .string z.den]) ∧ Val z (n : Rat) 8 ∧ Chg [] w w' := by
  refine (Int_any n w h1 h2).mono ?_
  rintro e w1 ⟨z, rfl, hz, c1⟩
  exact ⟨z, rfl, ⟨hz, bd_int h1 h2⟩, c1⟩
theorem Int64I (x : Q3) (n : Int) (k : Nat) (w : World) (hx : Num x (n : Rat) k) (hk : k ≤ 34359738367) (h1 : -9223372036854775808 ≤ n) (h2 : n ≤ 9223372036854775807) :
    Calls Tryd.prog 6 #[.agg #[.bool x.neg, .string x.num, .string x.den]] w fun e w' => e = .returned (.tuple #[.int .i64 n, .bool true]) ∧ Chg [] w w' := by
  have h := Int64N x (n : Rat) k w hx hk
  rwa [(i64_int h1 h2).1, (i64_int h1 h2).2] at h
theorem Int64O (x : Q3) (n : Int) (k : Nat) (w : World) (hx : Num x (n : Rat) k) (hk : k ≤ 34359738367) (h : n < -9223372036854775808 ∨ 9223372036854775807 < n) :
    Calls Tryd.prog 6 #[.agg #[.bool x.neg, .string x.num, .string x.den]] w fun e w' => e = .returned (.tuple #[.int .i64 0, .bool false]) ∧ Chg [] w w' := by
  have h3 := Int64N x (n : Rat) k w hx hk
  have h4 := i64_f (p := (n : Rat)) (by rw [Rat.num_intCast]; omega)
  rwa [h4.1, h4.2] at h3

end Go.Proofs.YtlhmimbooampdaaDoor
