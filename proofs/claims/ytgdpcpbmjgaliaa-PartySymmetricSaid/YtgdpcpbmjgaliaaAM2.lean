/-
  Shares as natural numbers over a common denominator: floors, parts, sums.
-/
import Derived.Test.YtgdpcpbmjgaliaaAM
import Derived.Test.YtgdpcpbmjgaliaaGA
namespace Go.Proofs.Ytgdpcpbmjgaliaa
open Nd

theorem apS_divmod (N : Nat → Nat) (D : Nat) : ∀ n, apS N n = apS (fun i => N i / D) n * D + apS (fun i => N i % D) n
  | 0 => by simp [apS]
  | n + 1 => by
    have h1 := apS_divmod N D n
    have h2 := Nat.div_add_mod (N n) D
    simp only [apS]
    rw [Nat.add_mul, Nat.mul_comm (N n / D) D]
    omega
/-- The remainders add up to what is left. -/
theorem ap_rest {N : Nat → Nat} {D n : Nat} (hD : 0 < D) (h : apS N n % D = 0) : apS (fun i => N i % D) n = (apS N n / D - apS (fun i => N i / D) n) * D ∧ apS (fun i => N i / D) n ≤ apS N n / D := by
  have h1 := apS_divmod N D n
  have h2 := Nat.div_add_mod (apS N n) D
  rw [h, Nat.add_zero, Nat.mul_comm] at h2
  have h3 : apS (fun i => N i / D) n * D ≤ apS N n / D * D := by omega
  refine ⟨?_, Nat.le_of_mul_le_mul_right h3 hD⟩
  rw [Nat.sub_mul]
  omega
theorem apS_mul (N : Nat → Nat) (t : Nat) : ∀ n, apS (fun i => t * N i) n = t * apS N n
  | 0 => rfl
  | n + 1 => by simp only [apS]; rw [apS_mul N t n, Nat.mul_add]
theorem apS_get {N : Nat → Nat} : ∀ {n i : Nat}, i < n → N i ≤ apS N n
  | 0, _, h => absurd h (by omega)
  | n + 1, i, h => by
    simp only [apS]
    by_cases e : i = n
    · rw [e]; omega
    · have := apS_get (N := N) (n := n) (i := i) (by omega); omega
/-- One more denominator taken into the common one. -/
theorem ap_lcm {c d : Nat} (hc : 0 < c) (hd : 0 < d) : 0 < c * (d / Nat.gcd c d) ∧ c ∣ c * (d / Nat.gcd c d) ∧ d ∣ c * (d / Nat.gcd c d) := by
  have hg : Nat.gcd c d ∣ d := Nat.gcd_dvd_right c d
  have hg2 : Nat.gcd c d ∣ c := Nat.gcd_dvd_left c d
  have hg0 : 0 < Nat.gcd c d := Nat.gcd_pos_of_pos_left d hc
  refine ⟨Nat.mul_pos hc (Nat.div_pos (Nat.le_of_dvd hd hg) hg0), Nat.dvd_mul_right _ _, ?_⟩
  obtain ⟨x, hx⟩ := hg2
  obtain ⟨y, hy⟩ := hg
  refine ⟨x, ?_⟩
  have h1 : d / Nat.gcd c d = y := Nat.div_eq_of_eq_mul_right hg0 hy
  rw [h1]
  calc c * y = (Nat.gcd c d * x) * y := by rw [← hx]
    _ = (Nat.gcd c d * y) * x := by rw [Nat.mul_assoc, Nat.mul_comm x y, ← Nat.mul_assoc]
    _ = d * x := by rw [← hy]
theorem ap_scale {x d D : Nat} (hd : d ∣ D) (hD : D ≠ 0) : sq false (x * (D / d)) D = sq false x d := by
  obtain ⟨y, rfl⟩ := hd
  have hd0 : 0 < d := Nat.pos_of_ne_zero fun h => hD (by rw [h, Nat.zero_mul])
  have hy0 : y ≠ 0 := fun h => hD (by rw [h, Nat.mul_zero])
  rw [Nat.mul_div_cancel_left y hd0, sq_expand _ _ _ hy0]
theorem ap_flo {x D : Nat} (hD : D ≠ 0) : flo (sq false x D) = sq false (x / D) 1 := (flo_sq hD (by simp)).symm
theorem ap_part {x D : Nat} (hD : D ≠ 0) : sq false x D - flo (sq false x D) = sq false (x % D) D := by
  have h1 : sq false (x / D) 1 = sq false (x / D * D) D := by
    have := sq_expand false (x / D) 1 hD
    rw [Nat.one_mul] at this
    exact this.symm
  have h2 : sq false (x % D) D + sq false (x / D * D) D = sq false x D := by
    rw [sum_same false hD, Nat.mul_comm (x / D) D, Nat.mod_add_div]
  rw [ap_flo hD, h1, ← h2]
  grind
theorem ap_less {x y D : Nat} (hD : D ≠ 0) : sq false x D < sq false y D ↔ x < y := by
  rw [lt_sq hD]
  simp
theorem ap_split {t x D W : Nat} (hD : D ≠ 0) (hW : W ≠ 0) : sq false t 1 * sq false x D / sq false W D = sq false (t * x) W := by
  have h1 := sq_div false false (n := t * x) (d := 1 * D) hW hD
  have h2 := sq_prod false false t x 1 D
  simp only [bne_self_eq_false] at h1 h2
  rw [h2, ← h1, Nat.one_mul, Nat.mul_comm D W, sq_expand _ _ _ hD]
/-- The sum of the first n numbers of a sequence. -/
def apQ (q : Nat → Rat) : Nat → Rat
  | 0 => 0
  | n + 1 => apQ q n + q n
theorem apQ_sq {N : Nat → Nat} {D : Nat} (hD : D ≠ 0) : ∀ n, apQ (fun i => sq false (N i) D) n = sq false (apS N n) D
  | 0 => (sq_zero false D).symm
  | n + 1 => by rw [apQ, apS, apQ_sq hD n, sum_same false hD]
/-- A sum is a whole number exactly if the numerators' sum is divided without a remainder. -/
theorem ap_whole {x D : Nat} (hD : D ≠ 0) : flo (sq false x D) = sq false x D ↔ x % D = 0 := by
  have h := ap_part (x := x) hD
  refine ⟨fun e => ?_, fun e => ?_⟩
  · rw [e] at h
    exact (sq_eq_zero hD).1 (by rw [← h]; grind)
  · rw [e, sq_zero] at h
    grind
end Go.Proofs.Ytgdpcpbmjgaliaa
