/-
  Elimination: the mathematics, continued: pivots ascend; a full set of pivots; the columns without a pivot.
-/
import Derived.Test.YtnbajendnknejaaLM2
namespace Go.Proofs.Ytnbajendnknejaa
open Nd

theorem ech_asc (f : Nat → Nat → Rat) (n : Nat) : ∀ c t u, t < u → u < (ech f n c).2.length → (ech f n c).2.getD t 0 < (ech f n c).2.getD u 0
  | 0, t, u, _, hu => absurd hu (by simp [ech])
  | c + 1, t, u, h, hu => by
    have IH := ech_asc f n c
    have hE := ech_holds f n c
    by_cases h1 : pivR (ech f n c).1 n (ech f n c).2.length c < n
    · rw [ech, if_pos h1] at hu ⊢
      simp only at hu ⊢
      rw [List.length_append, List.length_singleton] at hu
      rcases Nat.lt_or_ge u (ech f n c).2.length with h2 | h2
      · rw [getD_snoc_lt _ _ (by omega), getD_snoc_lt _ _ h2]; exact IH t u h h2
      · obtain rfl : u = (ech f n c).2.length := by omega
        rw [getD_snoc_lt _ _ h, getD_snoc_eq]; exact hE.lt t h
    · rw [ech, if_neg h1] at hu ⊢
      exact IH t u h hu
theorem asc_ge {pv : List Nat} (hasc : ∀ t u, t < u → u < pv.length → pv.getD t 0 < pv.getD u 0) : ∀ t, t < pv.length → t ≤ pv.getD t 0
  | 0, _ => Nat.zero_le _
  | t + 1, h => by
    have h1 := asc_ge hasc t (by omega)
    have h2 := hasc t (t + 1) (by omega) h
    omega
theorem asc_add {pv : List Nat} (hasc : ∀ t u, t < u → u < pv.length → pv.getD t 0 < pv.getD u 0) (t : Nat) : ∀ d, t + d < pv.length → pv.getD t 0 + d ≤ pv.getD (t + d) 0
  | 0, _ => Nat.le_refl _
  | d + 1, h => by
    have h1 := asc_add hasc t d (by omega)
    have h2 := hasc (t + d) (t + (d + 1)) (by omega) h
    omega
theorem asc_full {pv : List Nat} {n : Nat} (hl : pv.length = n) (hasc : ∀ t u, t < u → u < pv.length → pv.getD t 0 < pv.getD u 0) (hlt : ∀ t, t < pv.length → pv.getD t 0 < n) (t : Nat) (ht : t < n) : pv.getD t 0 = t := by
  have h1 := asc_ge hasc t (by omega)
  have h2 := asc_add hasc t (n - 1 - t) (by omega)
  have h3 := hlt (t + (n - 1 - t)) (by omega)
  omega
theorem pivR_end (f : Nat → Nat → Rat) (n c : Nat) : pivR f n n c = n := by unfold pivR; rw [Nat.sub_self]; rfl
theorem ech_full {f : Nat → Nat → Rat} {n c : Nat} (h : (ech f n c).2.length = n) : ∀ d, ech f n (c + d) = ech f n c
  | 0 => rfl
  | d + 1 => by
    have IH := ech_full h d
    rw [show c + (d + 1) = (c + d) + 1 by omega, ech, IH, h, pivR_end, if_neg (Nat.lt_irrefl n)]
/-- The columns below c that bear no pivot. -/
def kcols (pv : List Nat) : Nat → List Nat
  | 0 => []
  | c + 1 => if c ∈ pv then kcols pv c else kcols pv c ++ [c]
theorem kcols_len (pv : List Nat) : ∀ c, (kcols pv c).length ≤ c
  | 0 => Nat.le_refl _
  | c + 1 => by
    have := kcols_len pv c
    unfold kcols
    split
    · omega
    · simp; omega
theorem kcols_lt (pv : List Nat) : ∀ c i, i < (kcols pv c).length → (kcols pv c).getD i 0 < c
  | 0, i, h => absurd h (by simp [kcols])
  | c + 1, i, h => by
    have IH := kcols_lt pv c
    unfold kcols at h ⊢
    split at h
    · rename_i h1; rw [if_pos h1]; have := IH i h; omega
    · rename_i h1
      rw [if_neg h1]
      rw [List.length_append, List.length_singleton] at h
      rcases Nat.lt_or_ge i (kcols pv c).length with h2 | h2
      · rw [getD_snoc_lt _ _ h2]; have := IH i h2; omega
      · obtain rfl : i = (kcols pv c).length := by omega
        rw [getD_snoc_eq]; omega
theorem mem_pv {pv : List Nat} {c : Nat} : c ∈ pv ↔ ∃ t, t < pv.length ∧ pv.getD t 0 = c := by
  constructor
  · intro h
    obtain ⟨t, ht, rfl⟩ := List.getElem_of_mem h
    exact ⟨t, ht, by simp [List.getD_eq_getElem?_getD, ht]⟩
  · rintro ⟨t, ht, rfl⟩
    rw [List.getD_eq_getElem?_getD, List.getElem?_eq_getElem ht]
    exact List.getElem_mem ht
/-- p pivots lie before column f. -/
structure Passed (pv : List Nat) (p f : Nat) : Prop where
  le : p ≤ pv.length
  lo : ∀ t, t < p → pv.getD t 0 < f
  hi : ∀ t, p ≤ t → t < pv.length → f ≤ pv.getD t 0
theorem Passed.start (pv : List Nat) : Passed pv 0 0 := ⟨Nat.zero_le _, fun t h => absurd h (by omega), fun _ _ _ => Nat.zero_le _⟩
theorem Passed.hit {pv : List Nat} {p f : Nat} (h : Passed pv p f) (hasc : ∀ t u, t < u → u < pv.length → pv.getD t 0 < pv.getD u 0) (h1 : p < pv.length) (h2 : pv.getD p 0 = f) : f ∈ pv ∧ Passed pv (p + 1) (f + 1) := by
  refine ⟨mem_pv.2 ⟨p, h1, h2⟩, h1, fun t ht => ?_, fun t ht hl => ?_⟩
  · rcases Nat.lt_or_ge t p with h3 | h3
    · have := h.lo t h3; omega
    · obtain rfl : t = p := by omega
      omega
  · have := hasc p t (by omega) hl; omega
theorem Passed.miss {pv : List Nat} {p f : Nat} (h : Passed pv p f) (h1 : p < pv.length → pv.getD p 0 ≠ f) (hasc : ∀ t u, t < u → u < pv.length → pv.getD t 0 < pv.getD u 0) : f ∉ pv ∧ Passed pv p (f + 1) := by
  refine ⟨fun hm => ?_, h.le, fun t ht => by have := h.lo t ht; omega, fun t ht hl => ?_⟩
  · obtain ⟨t, ht, he⟩ := mem_pv.1 hm
    rcases Nat.lt_or_ge t p with h3 | h3
    · have := h.lo t h3; omega
    · rcases Nat.eq_or_lt_of_le h3 with rfl | h4
      · exact h1 ht he
      · have h5 := hasc p t h4 ht
        have h6 := h.hi p (Nat.le_refl _) (by omega)
        omega
  · rcases Nat.eq_or_lt_of_le ht with rfl | h4
    · have := h.hi p (Nat.le_refl _) hl
      have := h1 hl
      omega
    · have h5 := hasc p t h4 hl
      have h6 := h.hi p (Nat.le_refl _) (by omega)
      omega
theorem kcols_in {pv : List Nat} {c : Nat} (h : c ∈ pv) : kcols pv (c + 1) = kcols pv c := by rw [kcols, if_pos h]
theorem kcols_out {pv : List Nat} {c : Nat} (h : c ∉ pv) : kcols pv (c + 1) = kcols pv c ++ [c] := by rw [kcols, if_neg h]

end Go.Proofs.Ytnbajendnknejaa
