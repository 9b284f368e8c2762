/-
  The guess of a digit of a quotient by three digits (Knuth's algorithm D): its mathematics.
-/
import Derived.Test.YtjmonodjnljhdaaDoorR11
namespace Go.Proofs.YtjmonodjnljhdaaDoor
open Go.RowKit Nd

/-- The two leading digits of V, the three leading digits of U, and the quotient q of U and V. P is the power of B below them. -/
structure GuD (B v1 v2 top u3 U V q P : Nat) : Prop where
  hV1 : (v1 * B + v2) * P ≤ V
  hV2 : V < (v1 * B + v2 + 1) * P
  hU1 : (top * B + u3) * P ≤ U
  hU2 : U < (top * B + u3 + 1) * P
  q1 : q * V ≤ U
  q2 : U < (q + 1) * V
  qB : q < B
  v : 1 ≤ v1

theorem lt_of_mul {a b V U : Nat} (h1 : a * V ≤ U) (h2 : U < b * V) : a < b := by
  apply Classical.byContradiction
  intro h
  have : b * V ≤ a * V := Nat.mul_le_mul_right _ (by omega)
  omega

theorem gu_eq {B v1 v2 top guess rest : Nat} (h : guess * v1 + rest = top) : guess * (v1 * B + v2) + rest * B = top * B + guess * v2 := by
  subst h
  grind

/-- The guess is too great where the test says so. -/
theorem GuD.less {B v1 v2 top u3 U V q P guess rest : Nat} (h : GuD B v1 v2 top u3 U V q P) (hg : guess * v1 + rest = top) (hc : B ≤ guess ∨ rest * B + u3 < guess * v2) : q < guess := by
  rcases hc with hc | hc
  · have := h.qB; omega
  · have h1 := gu_eq (B := B) (v2 := v2) hg
    have h2 : top * B + u3 + 1 ≤ guess * (v1 * B + v2) := by omega
    have h3 : (top * B + u3 + 1) * P ≤ guess * (v1 * B + v2) * P := Nat.mul_le_mul_right _ h2
    have h4 : guess * ((v1 * B + v2) * P) ≤ guess * V := Nat.mul_le_mul_left _ h.hV1
    rw [← Nat.mul_assoc] at h4
    have h5 := h.hU2
    have h6 := h.q1
    exact lt_of_mul h6 (by omega)

/-- At the end it is the digit, or the digit and one. -/
theorem GuD.end_ {B v1 v2 top u3 U V q P guess rest : Nat} (h : GuD B v1 v2 top u3 U V q P) (hg : guess * v1 + rest = top) (hB : guess < B) (hc : guess * v2 ≤ rest * B + u3) : guess ≤ q + 1 := by
  have h1 := gu_eq (B := B) (v2 := v2) hg
  have h2 : guess * (v1 * B + v2) ≤ top * B + u3 := by omega
  have h3 : guess * (v1 * B + v2) * P ≤ (top * B + u3) * P := Nat.mul_le_mul_right _ h2
  have h4 : guess * V ≤ guess * ((v1 * B + v2 + 1) * P) := Nat.mul_le_mul_left _ (Nat.le_of_lt h.hV2)
  have h5 : guess * ((v1 * B + v2 + 1) * P) = guess * (v1 * B + v2) * P + guess * P := by rw [← Nat.mul_assoc, Nat.mul_add guess _ 1, Nat.mul_one, Nat.add_mul]
  have h6 : guess * P ≤ B * P := Nat.mul_le_mul_right _ (Nat.le_of_lt hB)
  have h7 : B * P ≤ V := by
    refine Nat.le_trans (Nat.mul_le_mul_right _ ?_) h.hV1
    have : 1 * B ≤ v1 * B := Nat.mul_le_mul_right _ h.v
    omega
  have h8 := h.hU1
  have h9 := h.q2
  have h10 : guess * V < (q + 2) * V := by
    rw [show q + 2 = q + 1 + 1 from rfl, Nat.add_mul (q + 1) 1 V, Nat.one_mul]
    omega
  have := Nat.lt_of_mul_lt_mul_right h10
  omega

/-- A break out of the loop: the guess is a digit, and the test would be false. -/
theorem gu_break {B v1 v2 top u3 guess rest : Nat} (hg : guess * v1 + rest = top) (ht : top < (v1 + 1) * B) (hr : B ≤ rest) (h2 : v2 < B) (_h1 : v1 < B) : guess < B ∧ guess * v2 ≤ rest * B + u3 := by
  have h3 : guess < B := by
    apply Classical.byContradiction
    intro h
    have h4 : B * v1 ≤ guess * v1 := Nat.mul_le_mul_right _ (by omega)
    rw [Nat.mul_comm B] at h4
    rw [Nat.add_mul, Nat.one_mul] at ht
    omega
  refine ⟨h3, ?_⟩
  have h5 : guess * v2 ≤ B * B := Nat.mul_le_mul (Nat.le_of_lt h3) (Nat.le_of_lt h2)
  have h6 : B * B ≤ rest * B := Nat.mul_le_mul_right _ hr
  omega

/-- The first guess is not too small. -/
theorem GuD.start {B v1 v2 top u3 U V q P : Nat} (h : GuD B v1 v2 top u3 U V q P) (_hB : 0 < B) (hu : u3 < B) : q ≤ top / v1 := by
  refine (Nat.le_div_iff_mul_le h.v).2 ?_
  apply Classical.byContradiction
  intro hc
  have h1 : (top + 1) * B ≤ q * v1 * B := Nat.mul_le_mul_right _ (by omega)
  rw [Nat.add_mul, Nat.one_mul] at h1
  have h2 : top * B + u3 + 1 ≤ q * v1 * B := by omega
  have h3 : (top * B + u3 + 1) * P ≤ q * v1 * B * P := Nat.mul_le_mul_right _ h2
  have h4 : q * ((v1 * B + v2) * P) ≤ q * V := Nat.mul_le_mul_left _ h.hV1
  have h5 : q * v1 * B * P ≤ q * ((v1 * B + v2) * P) := by
    have e : q * v1 * B * P = q * (v1 * B * P) := by grind
    rw [e]
    exact Nat.mul_le_mul_left _ (Nat.mul_le_mul_right _ (by omega))
  have h6 := h.hU2
  have h7 := h.q1
  omega

theorem win_two (B : Nat) (V : List Nat) (k : Nat) (hV : V.length = k + 2) : lv B V = (V.getD (k + 1) 0 * B + V.getD k 0) * B ^ k + win B V 0 k := by
  rw [← win_all, hV, win, win, Nat.zero_add, Nat.zero_add, Nat.pow_succ]
  generalize B ^ k = P
  generalize V.getD (k + 1) 0 = a
  generalize V.getD k 0 = b
  generalize win B V 0 k = z
  grind

theorem GuD.of_list {B : Nat} {L V : List Nat} {o k : Nat} (hB : 1 < B) (dL : dig B L) (dV : dig B V) (hV : V.length = k + 2) (hv : 1 ≤ V.getD (k + 1) 0) (hlt : win B L o (k + 3) < lv B V * B) :
    GuD B (V.getD (k + 1) 0) (V.getD k 0) (L.getD (o + (k + 2)) 0 * B + L.getD (o + (k + 1)) 0) (L.getD (o + k) 0) (win B L o (k + 3)) (lv B V) (win B L o (k + 3) / lv B V) (B ^ k) ∧
      L.getD (o + (k + 2)) 0 * B + L.getD (o + (k + 1)) 0 < (V.getD (k + 1) 0 + 1) * B := by
  have h1 := win_two B V k hV
  have h2 := win_top3 B L o k
  have h3 := win_lt B V 0 (by omega) dV k
  have h4 := win_lt B L o (by omega) dL k
  have h5 := dig_getD (by omega) dL (o + (k + 1))
  have h6 := dig_getD (by omega) dL (o + k)
  have h7 := dig_getD (by omega) dV k
  have hP : 0 < B ^ k := Nat.pow_pos (by omega)
  generalize win B L o (k + 3) = U at *
  generalize lv B V = W at *
  generalize V.getD (k + 1) 0 = v1 at *
  generalize V.getD k 0 = v2 at *
  generalize L.getD (o + (k + 2)) 0 = u2 at *
  generalize L.getD (o + (k + 1)) 0 = u1 at *
  generalize L.getD (o + k) 0 = u3 at *
  generalize win B V 0 k = z at *
  generalize win B L o k = y at *
  generalize B ^ k = P at *
  have hW : 0 < W := by
    have : 1 * 1 ≤ (v1 * B + v2) * P := Nat.mul_le_mul (by have : 1 * 1 ≤ v1 * B := Nat.mul_le_mul hv (by omega); omega) hP
    omega
  have e1 : (v1 * B + v2 + 1) * P = (v1 * B + v2) * P + P := by rw [Nat.add_mul _ 1 P, Nat.one_mul]
  have e2 : ((u2 * B + u1) * B + u3 + 1) * P = ((u2 * B + u1) * B + u3) * P + P := by rw [Nat.add_mul _ 1 P, Nat.one_mul]
  have hq := Nat.div_add_mod U W
  have hm := Nat.mod_lt U hW
  have hqB : U / W < B := (Nat.div_lt_iff_lt_mul hW).2 (by rw [Nat.mul_comm B]; exact hlt)
  refine ⟨⟨by omega, by omega, by omega, by omega, by rw [Nat.mul_comm]; omega, by rw [Nat.add_mul, Nat.one_mul, Nat.mul_comm]; omega, hqB, hv⟩, ?_⟩
  have hu : u2 < v1 + 1 := by
    apply Classical.byContradiction
    intro hc
    have a1 : (v1 + 1) * (B * B * P) ≤ u2 * (B * B * P) := Nat.mul_le_mul_right _ (by omega)
    have a2 : u2 * (B * B * P) ≤ ((u2 * B + u1) * B + u3) * P := by
      have : u2 * (B * B * P) = (u2 * B * B) * P := by grind
      rw [this]
      refine Nat.mul_le_mul_right _ ?_
      rw [Nat.add_mul]; omega
    have a3 : W * B ≤ (v1 + 1) * B * P * B := by
      refine Nat.mul_le_mul_right _ ?_
      have : (v1 * B + v2 + 1) * P ≤ (v1 + 1) * B * P := Nat.mul_le_mul_right _ (by rw [Nat.add_mul, Nat.one_mul]; omega)
      omega
    have a4 : (v1 + 1) * B * P * B = (v1 + 1) * (B * B * P) := by grind
    omega
  have : (u2 + 1) * B ≤ (v1 + 1) * B := Nat.mul_le_mul_right _ (by omega)
  rw [Nat.add_mul, Nat.one_mul] at this
  omega

end Go.Proofs.YtjmonodjnljhdaaDoor
