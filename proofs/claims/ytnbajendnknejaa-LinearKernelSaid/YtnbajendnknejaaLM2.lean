/-
  Elimination: the mathematics, continued: proportional rows have the same reduced form.
-/
import Derived.Test.YtnbajendnknejaaLM1
namespace Go.Proofs.Ytnbajendnknejaa
open Nd

theorem Prp.trans {E F G : Nat → Nat → Rat} {n m : Nat} (h : Prp E F n m) (k : Prp F G n m) : Prp E G n m := by
  obtain ⟨t, ht⟩ := h
  obtain ⟨u, hu⟩ := k
  refine ⟨fun i => t i * u i, fun i hi => ?_⟩
  obtain ⟨t0, tE⟩ := ht i hi
  obtain ⟨u0, uE⟩ := hu i hi
  refine ⟨fun hc => ?_, fun j hj => ?_⟩
  · rcases Rat.mul_eq_zero.1 hc with h | h
    · exact t0 h
    · exact u0 h
  · rw [tE j hj, uE j hj, Rat.mul_assoc]
theorem Prp.swap {E F : Nat → Nat → Rat} {n m r p : Nat} (h : Prp E F n m) (hr : r < n) (hp : p < n) : Prp (swp E r p) (swp F r p) n m := by
  obtain ⟨t, ht⟩ := h
  refine ⟨fun i => if i = r then t p else if i = p then t r else t i, fun i hi => ?_⟩
  unfold swp
  by_cases h1 : i = r
  · simp only [h1, if_true]; exact ht p hp
  · by_cases h2 : i = p
    · simp only [h2, if_true]
      by_cases h3 : p = r
      · simp only [h3, if_true]; exact ht r hr
      · simp only [h3, if_false]; exact ht r hr
    · simp only [h1, h2, if_false]; exact ht i hi
theorem div_cancel {t a b : Rat} (ht : t ≠ 0) (hb : b ≠ 0) : (t * a) / (t * b) = a / b := by
  have h1 : t * b ≠ 0 := fun hc => by
    rcases Rat.mul_eq_zero.1 hc with h | h
    · exact ht h
    · exact hb h
  have e1 : (t * a) / (t * b) * (t * b) = t * a := by rw [Rat.div_def, Rat.mul_assoc, Rat.inv_mul_cancel _ h1, Rat.mul_one]
  have e2 : a / b * b = a := by rw [Rat.div_def, Rat.mul_assoc, Rat.inv_mul_cancel _ hb, Rat.mul_one]
  have e3 : a / b * (t * b) = t * a := by
    have : a / b * (t * b) = t * (a / b * b) := by grind
    rw [this, e2]
  have e4 : ((t * a) / (t * b) - a / b) * (t * b) = 0 := by
    have : ((t * a) / (t * b) - a / b) * (t * b) = (t * a) / (t * b) * (t * b) - a / b * (t * b) := by grind
    rw [this, e1, e3]; grind
  rcases Rat.mul_eq_zero.1 e4 with h | h
  · grind
  · exact absurd h h1
/-- One step keeps two proportional forms proportional. -/
theorem Prp.stp {E F : Nat → Nat → Rat} {n m r c p : Nat} (h : Prp E F n m) (hr : r < n) (hp : p < n) (hc : c < m) (hz : F p c ≠ 0) : Prp (stp E r c p) (stp F r c p) n m := by
  obtain ⟨u, hu⟩ := h.swap hr hp
  obtain ⟨t, ht⟩ := h
  obtain ⟨tp0, tpE⟩ := ht p hp
  have hq : ∀ j, j < m → E p j / E p c = F p j / F p c := fun j hj => by rw [tpE j hj, tpE c hc]; exact div_cancel tp0 hz
  refine ⟨fun i => if i = r then 1 else u i, fun i hi => ?_⟩
  by_cases h1 : i = r
  · subst h1
    simp only [if_true]
    exact ⟨by decide, fun j hj => by rw [stp_r, stp_r, hq j hj, Rat.one_mul]⟩
  · simp only [h1, if_false]
    obtain ⟨u0, uE⟩ := hu i hi
    refine ⟨u0, fun j hj => ?_⟩
    rw [stp_ne E j h1, stp_ne F j h1, hq j hj, uE j hj, uE c hc]
    grind
/-- Proportional rows have the same pivots, and their forms are proportional. -/
theorem Prp.ech {E F : Nat → Nat → Rat} {n m : Nat} (h : Prp E F n m) : ∀ c, c ≤ m → (ech E n c).2 = (ech F n c).2 ∧ Prp (ech E n c).1 (ech F n c).1 n m
  | 0, _ => ⟨rfl, h⟩
  | c + 1, hc => by
    obtain ⟨h1, h2⟩ := Prp.ech h c (by omega)
    have hE := ech_holds E n c
    have hF := ech_holds F n c
    have hp := h2.piv (r := (Go.Proofs.Ytnbajendnknejaa.ech F n c).2.length) hF.len (show c < m by omega)
    rw [Go.Proofs.Ytnbajendnknejaa.ech, Go.Proofs.Ytnbajendnknejaa.ech, h1, hp]
    by_cases hlt : pivR (Go.Proofs.Ytnbajendnknejaa.ech F n c).1 n (Go.Proofs.Ytnbajendnknejaa.ech F n c).2.length c < n
    · rw [if_pos hlt, if_pos hlt]
      have hb := pivR_le (f := (Go.Proofs.Ytnbajendnknejaa.ech F n c).1) (c := c) hF.len
      exact ⟨rfl, h2.stp (by omega) hlt (by omega) (pivR_hit hF.len hlt)⟩
    · rw [if_neg hlt, if_neg hlt]
      exact ⟨h1, h2⟩
theorem Ech.bound {f : Nat → Nat → Rat} {pv : List Nat} {n c : Nat} (h : Ech f pv n c) {t : Nat} (ht : t < pv.length) : pv.getD t 0 < c := h.lt t ht
/-- The reduced form's rows behind the pivots. -/
theorem Ech.rest {f : Nat → Nat → Rat} {pv : List Nat} {n m i j : Nat} (h : Ech f pv n m) (hi : pv.length ≤ i) (hin : i < n) (hj : j < m) : f i j = 0 := h.zero i hi hin j hj

end Go.Proofs.Ytnbajendnknejaa
