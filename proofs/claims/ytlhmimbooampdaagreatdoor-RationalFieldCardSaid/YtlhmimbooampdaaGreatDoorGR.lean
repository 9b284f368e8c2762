/-
  Several parts put together: V6, V7.
-/
import Derived.Test.YtlhmimbooampdaaGreatDoorGQ
/- Part V6. -/

namespace Go.Proofs.YtlhmimbooampdaaGreatDoor
open Go.RowKit Nd
theorem sq_val2 {x y : Q3} {p q : Rat} {k l : Nat} (hx : Val x p k) (hy : Val y q l) : sq (x.neg != y.neg) (p.num.natAbs * q.num.natAbs) (p.den * q.den) = p * q := by
  rw [← sq_prod, hx.enc.neg, hy.enc.neg, sq_self, sq_self]
theorem sq_val3 {x y : Q3} {p q : Rat} {k l : Nat} (hx : Val x p k) (hy : Val y q l) (h0 : q ≠ 0) : sq (x.neg != y.neg) (p.num.natAbs * q.den) (p.den * q.num.natAbs) = p / q := by
  rw [sq_div _ _ (nat0 h0) q.den_nz, hx.enc.neg, hy.enc.neg, sq_self, sq_self]
theorem bd_div {p q : Rat} {k l : Nat} (hp : Bd k p) (hq : Bd l q) (h0 : q ≠ 0) : Bd (k + l) (p / q) := by
  have hn := nat0 h0
  have e : q⁻¹ = sq (decide (q.num < 0)) q.den q.num.natAbs := by rw [sq_inv q.den_nz hn, sq_self]
  have hb : Bd l q⁻¹ := by rw [e]; exact Bd_sq hn hq.2 hq.1
  rw [Rat.div_def]
  exact hp.mul hb

end Go.Proofs.YtlhmimbooampdaaGreatDoor

/- Part V7. -/

namespace Go.Proofs.YtlhmimbooampdaaGreatDoor
open Go.RowKit Nd
theorem sg_lt (p q : Rat) : decide (sg (p - q) < 0) = decide (p < q) := by
  have h : sg (p - q) < 0 ↔ p < q := by
    unfold sg
    by_cases h : p < q
    · have : p - q < 0 := by grind
      simp [h, this]
    · have : ¬ p - q < 0 := by grind
      rw [if_neg this]
      split <;> simp [h]
  simp [h]

end Go.Proofs.YtlhmimbooampdaaGreatDoor
