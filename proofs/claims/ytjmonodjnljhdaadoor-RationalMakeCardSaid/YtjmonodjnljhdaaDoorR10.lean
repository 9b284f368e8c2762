/-
  Walks of the reference: written, NatFormat.
-/
import Derived.Test.YtjmonodjnljhdaaDoorR9
namespace Go.Proofs.YtjmonodjnljhdaaDoor
open Go.RowKit Nd

/-- A slice of bytes that the call makes: nil, or a row of its own. -/
inductive Own8 (w0 w : World) : Value → List Nat → Prop
  | nil : Own8 w0 w (.slice none 0 0) []
  | row (g cap : Nat) (xs : List Nat) (h : Row 5 .u8 w g cap xs) (hg : w0.heap.size ≤ g) (hne : xs ≠ []) : Own8 w0 w (.slice (some ⟨g, 0, none⟩) xs.length cap) xs

/-- i pairs of X are exchanged. -/
structure Rev (X : List Nat) (n i : Nat) (M : List Nat) : Prop where
  len : M.length = n
  out : ∀ j, j < n → (j < i ∨ n - i ≤ j) → M.getD j 0 = X.getD (n - 1 - j) 0
  mid : ∀ j, i ≤ j → j < n - i → M.getD j 0 = X.getD j 0
theorem Rev.step {X M : List Nat} {n i : Nat} (h : Rev X n i M) (hi : i < n / 2) :
    Rev X n (i + 1) ((M.set i (M.getD (n - 1 - i) 0)).set (n - 1 - i) (M.getD i 0)) := by
  have h1 := h.mid i (Nat.le_refl _) (by omega)
  have h2 := h.mid (n - 1 - i) (by omega) (by omega)
  refine ⟨by simpa using h.len, fun j hj hjj => ?_, fun j hj hjj => ?_⟩
  · by_cases e1 : j = n - 1 - i
    · subst e1
      rw [Nd.getD_set_eq (by simp [h.len]; omega), h1, show n - 1 - (n - 1 - i) = i by omega]
    · rw [Nd.getD_set_ne e1]
      by_cases e2 : j = i
      · subst e2
        rw [Nd.getD_set_eq (by rw [h.len]; omega), h2]
      · rw [Nd.getD_set_ne e2]
        exact h.out j hj (by omega)
  · rw [Nd.getD_set_ne (by omega), Nd.getD_set_ne (by omega)]
    exact h.mid j (by omega) (by omega)
theorem Rev.done {X M : List Nat} {n i : Nat} (h : Rev X n i M) (hX : X.length = n) (hi : n / 2 ≤ i) (hi2 : i ≤ n / 2) : M = X.reverse := by
  apply List.ext_getElem
  · rw [h.len]; simp [hX]
  · intro j h1 h2
    have hj : j < n := by rw [← h.len]; exact h1
    rw [List.getElem_reverse]
    have e : M.getD j 0 = X.getD (n - 1 - j) 0 := by
      by_cases hc : j < i ∨ n - i ≤ j
      · exact h.out j hj hc
      · rw [h.mid j (by omega) (by omega)]
        congr 1; omega
    rw [getD_lt _ _ h1, getD_lt _ _ (by omega)] at e
    rw [e]
    congr 1
    rw [hX]

theorem Dec_chr {E : List Nat} (dE : dig 10 E) (hne : E ≠ []) (hz : noz E) : Dec (ofNums (chr E.reverse)) (lv 10 E) := by
  have hall := ofNums_chr_all _ (dig_reverse dE)
  refine ⟨?_, by rw [dv_chr _ (dig_reverse dE), List.reverse_reverse]⟩
  obtain ⟨m, x, rfl⟩ : ∃ m x, E = m ++ [x] := ⟨E.dropLast, E.getLast hne, (dropLast_last E hne).symm⟩
  have hx : x ≠ 0 := by rintro rfl; simp [noz] at hz
  have hx10 : x < 10 := dE x (by simp)
  have hh : (ofNums (chr (m ++ [x]).reverse)).head? = some (UInt8.ofNat (x + 48)) := by simp [chr, ofNums]
  have hh2 : UInt8.ofNat (x + 48) ≠ 48 := by
    intro h
    have := congrArg UInt8.toNat h
    rw [UInt8.toNat_ofNat_of_lt' (by simp [UInt8.size]; omega)] at this
    simp at this
    omega
  simp only [canD, Bool.and_eq_true, Bool.not_eq_true', Bool.or_eq_true, decide_eq_true_eq]
  refine ⟨⟨?_, hall⟩, .inr (by rw [hh]; simpa using hh2)⟩
  cases hc : ofNums (chr (m ++ [x]).reverse) with
  | nil => rw [hc] at hh; simp at hh
  | cons => rfl

end Go.Proofs.YtjmonodjnljhdaaDoor
