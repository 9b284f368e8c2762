/-
  The results depend on the proportions only; their sum; their distance from the exact shares; their order.
-/
import Derived.Test.YtdlejpaaoinokaaAX6
namespace Go.Proofs.Ytdlejpaaoinokaa
open Go.RowKit Nd

theorem apS_congr {f g : Nat → Nat} : ∀ {n : Nat}, (∀ j, j < n → f j = g j) → apS f n = apS g n
  | 0, _ => rfl
  | n + 1, h => by simp only [apS]; rw [apS_congr (n := n) fun j hj => h j (by omega), h n (by omega)]
theorem apR_congr {f g : Nat → Nat} {n : Nat} (h : ∀ j, j < n → f j = g j) {j : Nat} (hj : j < n) : apR f n j = apR g n j := by
  unfold apR
  exact apC_congr fun k hk => by unfold apB; rw [h k hk, h j hj]
theorem resA_congr {N N' : Nat → Nat} {D n : Nat} (h : ∀ j, j < n → N j = N' j) {j : Nat} (hj : j < n) : resA N D n j = resA N' D n j := by
  unfold resA lftA
  rw [h j hj, apR_congr (f := fun i => N i % D) (g := fun i => N' i % D) (fun i hi => by simp only [h i hi]) hj, apS_congr h, apS_congr (f := fun i => N i / D) (g := fun i => N' i / D) (fun i hi => by simp only [h i hi])]
theorem resA_scale {N : Nat → Nat} {D n c : Nat} (hc : 0 < c) (j : Nat) : resA (fun i => c * N i) (c * D) n j = resA N D n j := by
  have h1 : ∀ i, c * N i / (c * D) = N i / D := fun i => Nat.mul_div_mul_left _ _ hc
  have h2 : ∀ i, c * N i % (c * D) = c * (N i % D) := fun i => Nat.mul_mod_mul_left c _ _
  have h3 : apR (fun i => c * (N i % D)) n j = apR (fun i => N i % D) n j := by
    unfold apR
    refine apC_congr fun k _ => ?_
    unfold apB
    refine decide_eq_decide.2 ?_
    have e1 : c * (N j % D) < c * (N k % D) ↔ N j % D < N k % D := Nat.mul_lt_mul_left hc
    have e2 : c * (N k % D) = c * (N j % D) ↔ N k % D = N j % D := ⟨fun h => Nat.eq_of_mul_eq_mul_left hc h, fun h => by rw [h]⟩
    rw [e1, e2]
  unfold resA lftA
  simp only [h1, h2, h3, apS_mul, Nat.mul_div_mul_left _ _ hc]
theorem okS_scale {S D c : Nat} (hc : 0 < c) : okS (c * S) (c * D) = okS S D := by
  unfold okS
  rw [Nat.mul_mod_mul_left, Nat.mul_div_mul_left _ _ hc]
  congr 1
  refine decide_eq_decide.2 ⟨fun h => ?_, fun h => by rw [h, Nat.mul_zero]⟩
  rcases Nat.mul_eq_zero.1 h with h | h
  · omega
  · exact h
theorem ap_cross {N N' : Nat → Nat} {D D' n : Nat} (h : ∀ j, j < n → N j * D' = N' j * D) : ∀ j, j < n → D' * N j = D * N' j := fun j hj => by rw [Nat.mul_comm D', Nat.mul_comm D, h j hj]
/-- The results depend on the exact shares only. -/
theorem resA_same {N N' : Nat → Nat} {D D' n : Nat} (hD : 0 < D) (hD' : 0 < D') (h : ∀ j, j < n → N j * D' = N' j * D) {j : Nat} (hj : j < n) : resA N D n j = resA N' D' n j := by
  rw [← resA_scale (N := N) (D := D) hD' j, ← resA_scale (N := N') (D := D') hD j, Nat.mul_comm D' D]
  exact resA_congr (ap_cross h) hj
theorem okS_same {N N' : Nat → Nat} {D D' n : Nat} (hD : 0 < D) (hD' : 0 < D') (h : ∀ j, j < n → N j * D' = N' j * D) : okS (apS N n) D = okS (apS N' n) D' := by
  rw [← okS_scale (S := apS N n) (D := D) hD', ← okS_scale (S := apS N' n) (D := D') hD, Nat.mul_comm D' D, ← apS_mul, ← apS_mul, apS_congr (ap_cross h)]
theorem sq_cross {n m d e : Nat} (hd : 0 < d) (he : 0 < e) (h : sq false n d = sq false m e) : n * e = m * d := by
  have h1 := (sq_eq_iff (by omega) (by omega)).1 h
  simp only [Bool.false_eq_true, if_false] at h1
  exact_mod_cast h1
/-- Weights times a number: the same proportions. -/
theorem ap_prop {N N' : Nat → Nat} {n c c' : Nat} (h : ∀ j, j < n → c * N' j = c' * N j) : c * apS N' n = c' * apS N n := by
  rw [← apS_mul, ← apS_mul, apS_congr h]
theorem ap_same {N N' : Nat → Nat} {n c c' t : Nat} (hc : 0 < c) (hc' : 0 < c') (h : ∀ j, j < n → c * N' j = c' * N j) {j : Nat} (h0 : apS N n ≠ 0) (hj : j < n) :
    resA (fun i => t * N i) (apS N n) n j = resA (fun i => t * N' i) (apS N' n) n j := by
  have hp := ap_prop h
  have h0' : apS N' n ≠ 0 := fun e => by
    rw [e, Nat.mul_zero] at hp
    rcases Nat.mul_eq_zero.1 hp.symm with h | h <;> omega
  refine resA_same (by omega) (by omega) (fun i hi => ?_) hj
  refine Nat.eq_of_mul_eq_mul_left hc ?_
  calc c * (t * N i * apS N' n) = t * N i * (c * apS N' n) := by rw [Nat.mul_left_comm]
    _ = t * N i * (c' * apS N n) := by rw [hp]
    _ = t * (c' * N i) * apS N n := by rw [Nat.mul_assoc, Nat.mul_assoc, Nat.mul_left_comm (N i), Nat.mul_assoc]
    _ = t * (c * N' i) * apS N n := by rw [h i hi]
    _ = c * (t * N' i * apS N n) := by rw [Nat.mul_left_comm t c, Nat.mul_assoc, Nat.mul_assoc]
theorem ap_zero {N N' : Nat → Nat} {n c c' : Nat} (hc : 0 < c) (hc' : 0 < c') (h : ∀ j, j < n → c * N' j = c' * N j) : apS N n = 0 ↔ apS N' n = 0 := by
  have hp := ap_prop h
  refine ⟨fun e => ?_, fun e => ?_⟩
  · rw [e, Nat.mul_zero] at hp
    rcases Nat.mul_eq_zero.1 hp with h | h <;> omega
  · rw [e, Nat.mul_zero] at hp
    rcases Nat.mul_eq_zero.1 hp.symm with h | h <;> omega
theorem apS_add (f g : Nat → Nat) : ∀ n, apS (fun i => f i + g i) n = apS f n + apS g n
  | 0 => rfl
  | n + 1 => by simp only [apS]; rw [apS_add f g n]; omega
theorem apS_if (p : Nat → Bool) : ∀ n, apS (fun i => if p i = true then 1 else 0) n = apC p n
  | 0 => rfl
  | n + 1 => by simp only [apS, apC]; rw [apS_if p n]
/-- The results add up to the sum of the shares. -/
theorem resA_sum {N : Nat → Nat} {D n : Nat} (h : Fin1 N D n) : apS (resA N D n) n = apS N n / D := by
  have h1 : apS (resA N D n) n = apS (fun i => N i / D) n + apS (fun i => if (decide (apR (fun i => N i % D) n i < lftA N D n)) = true then 1 else 0) n := by
    rw [← apS_add]
    exact apS_congr fun j _ => by unfold resA; simp only [decide_eq_true_eq]
  rw [h1, apS_if, apC_rank h.left]
  have := h.sum
  unfold lftA
  omega
/-- A share that is rounded up has a fractional part. -/
theorem resA_up {N : Nat → Nat} {D n : Nat} (h : Fin1 N D n) {j : Nat} (hj : j < n) (hr : apR (fun i => N i % D) n j < lftA N D n) : N j % D ≠ 0 := by
  intro h0
  obtain ⟨i, hi, h1, h2⟩ := ap_left h.pos h.rest (fun i _ => Nat.mod_lt _ h.pos) (by have := apR_lt (r := fun i => N i % D) hj; omega) hr
  by_cases e : i = j
  · subst e; exact h2 h0
  · have h3 : apB (fun i => N i % D) i j = true := apB_iff.2 (Or.inl (by simp only [h0]; omega))
    have h4 := (apR_iff (r := fun i => N i % D) hi hj).2 h3
    omega
/-- A greater share gets no less; of equal ones the first gets no less, and one more at most. -/
theorem resA_mono {N : Nat → Nat} {D n : Nat} {i k : Nat} (hi : i < n) (hk : k < n) (h : N k < N i) : resA N D n k ≤ resA N D n i := by
  unfold resA
  have h1 : N k / D ≤ N i / D := Nat.div_le_div_right (by omega)
  by_cases e : N k / D = N i / D
  · have h2 : N k % D < N i % D := by
      have a := Nat.div_add_mod (N k) D
      have b := Nat.div_add_mod (N i) D
      rw [e] at a
      omega
    have h3 := (apR_iff (r := fun i => N i % D) hi hk).2 (apB_iff.2 (Or.inl h2))
    split <;> split <;> omega
  · split <;> split <;> omega
theorem resA_eq {N : Nat → Nat} {D n : Nat} {i k : Nat} (hi : i < n) (hk : k < n) (h : N k = N i) (hik : i < k) : resA N D n k ≤ resA N D n i ∧ resA N D n i ≤ resA N D n k + 1 := by
  unfold resA
  have h3 := (apR_iff (r := fun i => N i % D) hi hk).2 (apB_iff.2 (Or.inr ⟨by simp only [h], hik⟩))
  rw [h]
  constructor
  · split <;> split <;> omega
  · split <;> split <;> omega
end Go.Proofs.Ytdlejpaaoinokaa
