/-
  Walks of the reference: NatSubtract, plus, NatAdd.
-/
import Derived.Test.YtjmonodjnljhdaaDoorR5
namespace Go.Proofs.YtjmonodjnljhdaaDoor
open Go.RowKit Nd

/-- A + B into a new slice: i digits are done, c is carried. -/
structure PlI (A B : List Nat) (i c : Nat) (O : List Nat) : Prop where
  len : O.length = i
  digs : dig 4294967296 O
  carry : c ≤ 1
  value : lv 4294967296 O + 4294967296 ^ i * c = lv 4294967296 (A.take i) + lv 4294967296 (B.take i)
theorem PlI.step {A B O : List Nat} {i c x y : Nat} (h : PlI A B i c O) (dA : dig 4294967296 A) (dB : dig 4294967296 B) (hx : A.getD i 0 = x) (hy : B.getD i 0 = y) :
    PlI A B (i + 1) ((c + x + y) / 4294967296) (O ++ [(c + x + y) % 4294967296]) := by
  have hx2 : x < 4294967296 := by rw [← hx]; exact dig_getD (by omega) dA i
  have hy2 : y < 4294967296 := by rw [← hy]; exact dig_getD (by omega) dB i
  have hc := h.carry
  refine ⟨by simp [h.len], dig_append h.digs (dig_cons (Nat.mod_lt _ (by omega)) (dig_nil _)), by omega, ?_⟩
  rw [lv_snoc, h.len, lv_take_step, lv_take_step, hx, hy]
  have := add_step 4294967296 i _ c x y ((c + x + y) % 4294967296) ((c + x + y) / 4294967296) _ h.value (by omega)
  omega
theorem PlI.end_ {A B O : List Nat} {i c n : Nat} (h : PlI A B i c O) (dA : dig 4294967296 A) (dB : dig 4294967296 B) (hA : A.length ≤ n) (hB : B.length ≤ n) (hi : n + 1 ≤ i) : c = 0 := by
  have h1 := h.value
  have h2 := lv_lt (B := 4294967296) (by omega) _ (dig_take dA i)
  have h3 := lv_lt (B := 4294967296) (by omega) _ (dig_take dB i)
  have h4 : 4294967296 ^ (A.take i).length ≤ 4294967296 ^ n := Nat.pow_le_pow_right (by omega) (by rw [List.length_take]; omega)
  have h5 : 4294967296 ^ (B.take i).length ≤ 4294967296 ^ n := Nat.pow_le_pow_right (by omega) (by rw [List.length_take]; omega)
  have h6 : 4294967296 ^ (n + 1) ≤ 4294967296 ^ i := Nat.pow_le_pow_right (by omega) hi
  rw [Nat.pow_succ] at h6
  apply Classical.byContradiction
  intro hc
  have : 4294967296 ^ i * 1 ≤ 4294967296 ^ i * c := Nat.mul_le_mul_left _ (by omega)
  omega

/-- The slice that plus fills: nil, or a row of its own. -/
inductive Own (w0 w : World) : Value → List Nat → Prop
  | nil : Own w0 w (.slice none 0 0) []
  | row (g cap : Nat) (xs : List Nat) (h : Row 77 .u32 w g cap xs) (hg : w0.heap.size ≤ g) : Own w0 w (.slice (some ⟨g, 0, none⟩) xs.length cap) xs
theorem Own.sl {w0 w : World} {v : Value} {xs : List Nat} (h : Own w0 w v xs) : Sl w v xs := by
  cases h with
  | nil => exact Sl.nil
  | row g cap _ h _ => exact Sl.row g cap xs h

end Go.Proofs.YtjmonodjnljhdaaDoor
