/-
  Several parts put together: Q4, Q5, Q6.
-/
import Derived.Test.YtogciehmdlfkfaaGreatDoorGJ
import Derived.Test.YtogciehmdlfkfaaGreatDoorGD
import Derived.Test.YtogciehmdlfkfaaGreatDoorGC
/- Part Q4. -/

namespace Go.Proofs.YtogciehmdlfkfaaGreatDoor
open Go.RowKit Nd

theorem dnS_size {x : Q3} {p : Rat} {k : Nat} (h : Enc x p) (b : Bd k p) : (dnS x).size ≤ k := h.dn_size b
theorem mul_is {X Y s : ByteArray} {x y : Nat} (hX : Is X x) (hY : Is Y y) (h : Is s (val X * val Y)) : Is s (x * y) := by rw [Is_val hX, Is_val hY] at h; exact h

end Go.Proofs.YtogciehmdlfkfaaGreatDoor

/- Part Q5. -/

namespace Go.Proofs.YtogciehmdlfkfaaGreatDoor
open Go.RowKit Nd

theorem lt_pow_le {x k l : Nat} (h : x < 256 ^ k) (hl : k ≤ l) : x < 256 ^ l := Nat.lt_of_lt_of_le h (Nat.pow_le_pow_right (by omega) hl)
theorem ord_ge0 {x y : Nat} (h : y ≤ x) : 0 ≤ ord x y := by unfold ord; rw [if_neg (by omega)]; split <;> omega

end Go.Proofs.YtogciehmdlfkfaaGreatDoor

/- Part Q6. -/

namespace Go.Proofs.YtogciehmdlfkfaaGreatDoor
open Go.RowKit Nd

theorem flo_step {neg : Bool} {n d : Nat} (hd : d ≠ 0) : sq neg (if neg && decide (n % d ≠ 0) then n / d + 1 else n / d) 1 = flo (sq neg n d) := flo_sq hd rfl

end Go.Proofs.YtogciehmdlfkfaaGreatDoor
