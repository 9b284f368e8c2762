/-
  Mathematics of the largest remainder: the rank of an index; the sorted order; the greatest part taken again and again.
-/
import Derived.Test.YtgdpcpbmjgaliaaGA
namespace Go.Proofs.Ytgdpcpbmjgaliaa

/-- How many of the numbers below n have the property. -/
def apC (p : Nat → Bool) : Nat → Nat
  | 0 => 0
  | n + 1 => apC p n + (if p n then 1 else 0)
theorem apC_mono {p q : Nat → Bool} : ∀ {n : Nat}, (∀ k, k < n → p k = true → q k = true) → apC p n ≤ apC q n
  | 0, _ => Nat.le_refl _
  | n + 1, h => by
    have h1 := apC_mono (n := n) (fun k hk => h k (by omega))
    have h2 := h n (by omega)
    simp only [apC]
    by_cases hp : p n = true
    · rw [if_pos hp, if_pos (h2 hp)]; omega
    · rw [if_neg hp]; omega
theorem apC_lt {p q : Nat → Bool} {j : Nat} : ∀ {n : Nat}, (∀ k, k < n → p k = true → q k = true) → j < n → q j = true → p j = false → apC p n < apC q n
  | 0, _, h, _, _ => absurd h (by omega)
  | n + 1, h, hj, hq, hp => by
    simp only [apC]
    by_cases e : j = n
    · subst e
      have h1 := apC_mono (n := j) (fun k hk => h k (by omega))
      rw [if_pos hq, if_neg (by simp [hp])]; omega
    · have h1 := apC_lt (n := n) (fun k hk => h k (by omega)) (by omega) hq hp
      have h2 := h n (by omega)
      by_cases hp2 : p n = true
      · rw [if_pos hp2, if_pos (h2 hp2)]; omega
      · rw [if_neg hp2]; omega
theorem apC_all (n : Nat) : apC (fun _ => true) n = n := by
  induction n with
  | zero => rfl
  | succ n ih => simp [apC, ih]
theorem apC_none {p : Nat → Bool} : ∀ {n : Nat}, (∀ k, k < n → p k = false) → apC p n = 0
  | 0, _ => rfl
  | n + 1, h => by simp only [apC]; rw [apC_none (fun k hk => h k (by omega)), if_neg (by rw [h n (by omega)]; decide)]
theorem apC_congr {p q : Nat → Bool} {n : Nat} (h : ∀ k, k < n → p k = q k) : apC p n = apC q n :=
  Nat.le_antisymm (apC_mono fun k hk e => by rw [← h k hk]; exact e) (apC_mono fun k hk e => by rw [h k hk]; exact e)

/-- k comes before i: it has the greater remainder, or the same one and the smaller index. -/
def apB (r : Nat → Nat) (k i : Nat) : Bool := decide (r i < r k ∨ (r k = r i ∧ k < i))
theorem apB_iff {r : Nat → Nat} {k i : Nat} : apB r k i = true ↔ (r i < r k ∨ (r k = r i ∧ k < i)) := by unfold apB; exact decide_eq_true_iff
theorem apB_trans {r : Nat → Nat} {a b c : Nat} (h : apB r a b = true) (g : apB r b c = true) : apB r a c = true := by
  rw [apB_iff] at *; omega
theorem apB_self (r : Nat → Nat) (a : Nat) : apB r a a = false := by unfold apB; exact decide_eq_false (by omega)
theorem apB_asymm {r : Nat → Nat} {a b : Nat} (h : apB r a b = true) : apB r b a = false := by
  rw [apB_iff] at h; unfold apB; exact decide_eq_false (by omega)
theorem apB_total {r : Nat → Nat} {a b : Nat} (h : a ≠ b) : apB r a b = true ∨ apB r b a = true := by
  rw [apB_iff, apB_iff]; omega

/-- The rank of i among the numbers below n. -/
def apR (r : Nat → Nat) (n i : Nat) : Nat := apC (fun k => apB r k i) n
theorem apR_lt_of {r : Nat → Nat} {n i j : Nat} (hi : i < n) (h : apB r i j = true) : apR r n i < apR r n j :=
  apC_lt (j := i) (fun _ _ e => apB_trans e h) hi h (apB_self r i)
theorem apR_iff {r : Nat → Nat} {n i j : Nat} (hi : i < n) (hj : j < n) : apR r n i < apR r n j ↔ apB r i j = true := by
  refine ⟨fun h => ?_, apR_lt_of hi⟩
  by_cases e : i = j
  · subst e; exact absurd h (Nat.lt_irrefl _)
  · rcases apB_total (r := r) e with h1 | h1
    · exact h1
    · have := apR_lt_of hj h1; omega
theorem apR_inj {r : Nat → Nat} {n i j : Nat} (hi : i < n) (hj : j < n) (h : apR r n i = apR r n j) : i = j := by
  by_cases e : i = j
  · exact e
  · rcases apB_total (r := r) e with h1 | h1
    · have := apR_lt_of hi h1; omega
    · have := apR_lt_of hj h1; omega
theorem apR_lt {r : Nat → Nat} {n i : Nat} (hi : i < n) : apR r n i < n := by
  have := apC_lt (p := fun k => apB r k i) (q := fun _ => true) (j := i) (n := n) (fun _ _ _ => rfl) hi rfl (apB_self r i)
  rw [apC_all] at this
  exact this
/-- At most one number below m has the rank t. -/
theorem apC_one {r : Nat → Nat} {n t : Nat} : ∀ {m : Nat}, m ≤ n → apC (fun k => decide (apR r n k < t + 1)) m ≤ apC (fun k => decide (apR r n k < t)) m + 1
  | 0, _ => by simp [apC]
  | m + 1, hm => by
    simp only [apC]
    by_cases e : apR r n m = t
    · have hs : apC (fun k => decide (apR r n k < t + 1)) m = apC (fun k => decide (apR r n k < t)) m := apC_congr fun k hk => by
        have : apR r n k ≠ t := fun h => by have := apR_inj (r := r) (n := n) (by omega : k < n) (by omega : m < n) (by rw [h, e]); omega
        exact decide_eq_decide.2 (by omega)
      rw [hs]
      split <;> split <;> omega
    · have ih := apC_one (r := r) (n := n) (t := t) (m := m) (by omega)
      by_cases g : apR r n m < t
      · rw [if_pos (decide_eq_true (by omega : apR r n m < t + 1)), if_pos (decide_eq_true g)]; omega
      · rw [if_neg (by simp; omega), if_neg (by simp; omega)]; omega
/-- Exactly t numbers have a rank below t. -/
theorem apC_rank {r : Nat → Nat} {n t : Nat} (ht : t ≤ n) : apC (fun k => decide (apR r n k < t)) n = t := by
  have h1 : ∀ s, apC (fun k => decide (apR r n k < s)) n ≤ s := fun s => by
    induction s with
    | zero => rw [apC_none fun k _ => decide_eq_false (Nat.not_lt_zero _)]; omega
    | succ s ih => have := apC_one (r := r) (n := n) (t := s) (Nat.le_refl n); omega
  have h2 : ∀ d s, s + d = n → n ≤ apC (fun k => decide (apR r n k < s)) n + d := fun d => by
    induction d with
    | zero =>
      intro s hs
      rw [apC_congr (q := fun _ => true) (fun k hk => decide_eq_true (by have := apR_lt (r := r) hk; omega)), apC_all]; omega
    | succ d ih =>
      intro s hs
      have := ih (s + 1) (by omega)
      have := apC_one (r := r) (n := n) (t := s) (Nat.le_refl n)
      omega
  have := h1 t
  have := h2 (n - t) t (by omega)
  omega
/-- The first of those that have not been taken has the rank t. -/
theorem apR_best {r : Nat → Nat} {n t b : Nat} (hb : b < n) (h1 : t ≤ apR r n b) (h2 : ∀ i, i < n → t ≤ apR r n i → i ≠ b → apB r b i = true) : apR r n b = t := by
  have ht : t ≤ n := by have := apR_lt (r := r) hb; omega
  have : apR r n b = apC (fun k => decide (apR r n k < t)) n := apC_congr fun k hk => by
    by_cases e : apR r n k < t
    · rw [decide_eq_true e]
      exact (apR_iff hk hb).1 (by omega)
    · rw [decide_eq_false e]
      by_cases g : k = b
      · rw [g]; exact apB_self r b
      · exact apB_asymm (h2 k hk (by omega) g)
  rw [this, apC_rank ht]

/-- The sum of the numbers below n. -/
def apS (r : Nat → Nat) : Nat → Nat
  | 0 => 0
  | n + 1 => apS r n + r n
theorem apS_le {r : Nat → Nat} {D : Nat} {p : Nat → Bool} : ∀ {n : Nat}, (∀ i, i < n → r i ≤ D ∧ (r i ≠ 0 → p i = true)) → apS r n ≤ D * apC p n
  | 0, _ => Nat.zero_le _
  | n + 1, h => by
    have h1 := apS_le (n := n) (fun k hk => h k (by omega))
    have h2 := h n (by omega)
    simp only [apS, apC]
    by_cases e : r n = 0
    · rw [e, Nat.mul_add]; omega
    · rw [if_pos (h2.2 e), Nat.mul_add, Nat.mul_one]; omega
/-- While there is something left, a part that is not 0 is left. -/
theorem ap_left {r : Nat → Nat} {n D L t : Nat} (hD : 0 < D) (hs : apS r n = L * D) (hr : ∀ i, i < n → r i < D) (htn : t ≤ n) (ht : t < L) : ∃ i, i < n ∧ t ≤ apR r n i ∧ r i ≠ 0 := by
  refine Classical.byContradiction fun hno => ?_
  have h1 : apS r n ≤ D * apC (fun k => decide (apR r n k < t)) n := apS_le fun i hi => ⟨Nat.le_of_lt (hr i hi), fun h => decide_eq_true (Classical.byContradiction fun g => hno ⟨i, hi, by omega, h⟩)⟩
  rw [apC_rank htn, hs, Nat.mul_comm] at h1
  have := Nat.le_of_mul_le_mul_left h1 hD
  omega
/-- What is left is less than the number of parts. -/
theorem ap_len {r : Nat → Nat} {n D L : Nat} (hD : 0 < D) (hs : apS r n = L * D) (hr : ∀ i, i < n → r i < D) : L ≤ n := by
  have h1 : apS r n ≤ D * apC (fun _ => true) n := apS_le fun i hi => ⟨Nat.le_of_lt (hr i hi), fun _ => rfl⟩
  rw [apC_all, hs, Nat.mul_comm] at h1
  exact Nat.le_of_mul_le_mul_left h1 hD

/-- A sorted order has rank a at place a. -/
theorem apR_sorted {r : Nat → Nat} {n : Nat} {o : Nat → Nat} (h1 : ∀ a, a < n → o a < n) (h2 : ∀ a b, a < b → b < n → apB r (o a) (o b) = true) {a : Nat} (ha : a < n) : apR r n (o a) = a := by
  have hup : ∀ a, a < n → a ≤ apR r n (o a) := fun a => by
    induction a with
    | zero => intro _; exact Nat.zero_le _
    | succ a ih =>
      intro h
      have := ih (by omega)
      have := apR_lt_of (h1 a (by omega)) (h2 a (a + 1) (by omega) h)
      omega
  have hdn : ∀ d a, a + d + 1 = n → apR r n (o a) + d < n := fun d => by
    induction d with
    | zero => intro a h; have := apR_lt (r := r) (h1 a (by omega)); omega
    | succ d ih =>
      intro a h
      have := ih (a + 1) (by omega)
      have := apR_lt_of (h1 a (by omega)) (h2 a (a + 1) (by omega) (by omega))
      omega
  have := hup a ha
  have := hdn (n - a - 1) a (by omega)
  omega

/-- The first i places are sorted, and hold the numbers below i; the others hold their own. -/
structure ApO (r o : Nat → Nat) (i : Nat) : Prop where
  ord : ∀ a b, a < b → b < i → apB r (o a) (o b) = true
  lt : ∀ a, a < i → o a < i
  rest : ∀ a, i ≤ a → o a = a
/-- The number i stands at place j on its way down. -/
structure ApI (r o : Nat → Nat) (i j : Nat) : Prop where
  le : j ≤ i
  at_ : o j = i
  ord : ∀ a b, a < b → b ≤ i → a ≠ j → b ≠ j → apB r (o a) (o b) = true
  up : ∀ b, j < b → b ≤ i → apB r i (o b) = true
  lt : ∀ a, a ≤ i → a ≠ j → o a < i
  rest : ∀ a, i < a → o a = a
theorem ApO.start (r : Nat → Nat) : ApO r (fun a => a) 0 := ⟨fun _ _ _ h => absurd h (by omega), fun _ h => absurd h (by omega), fun _ _ => rfl⟩
theorem ApO.one (r : Nat → Nat) : ApO r (fun a => a) 1 := ⟨fun _ _ _ h => absurd h (by omega), fun _ h => h, fun _ _ => rfl⟩
theorem ApO.enter {r o : Nat → Nat} {i : Nat} (h : ApO r o i) : ApI r o i i :=
  ⟨Nat.le_refl _, h.rest i (Nat.le_refl _), fun a b h1 h2 _ h3 => h.ord a b h1 (by omega), fun b h1 h2 => absurd h1 (by omega), fun a h1 h2 => h.lt a (by omega), fun a h1 => h.rest a (by omega)⟩
/-- Places j and j - 1 exchanged. -/
def apX (o : Nat → Nat) (j : Nat) : Nat → Nat := fun a => if a = j then o (j - 1) else if a = j - 1 then o j else o a
theorem ApI.swap {r o : Nat → Nat} {i j : Nat} (h : ApI r o i j) (hj : 0 < j) (hr : r (o (j - 1)) < r i) : ApI r (apX o j) i (j - 1) where
  le := by have := h.le; omega
  at_ := by
    unfold apX
    rw [if_neg (by omega), if_pos rfl]
    exact h.at_
  ord a b h1 h2 h3 h4 := by
    have hj2 := h.le
    unfold apX
    rw [if_neg h3, if_neg h4]
    by_cases e : a = j
    · rw [if_pos e, if_neg (by omega)]
      exact h.ord (j - 1) b (by omega) h2 (by omega) (by omega)
    · rw [if_neg e]
      by_cases g : b = j
      · rw [if_pos g]
        exact h.ord a (j - 1) (by omega) (by omega) (by omega) (by omega)
      · rw [if_neg g]
        exact h.ord a b h1 h2 e g
  up b h1 h2 := by
    have hj2 := h.le
    unfold apX
    by_cases e : b = j
    · rw [if_pos e]; exact apB_iff.2 (.inl hr)
    · rw [if_neg e, if_neg (by omega)]
      exact h.up b (by omega) h2
  lt a h1 h2 := by
    have hj2 := h.le
    unfold apX
    rw [if_neg h2]
    by_cases e : a = j
    · rw [if_pos e]; exact h.lt (j - 1) (by omega) (by omega)
    · rw [if_neg e]; exact h.lt a h1 e
  rest a h1 := by
    have hj2 := h.le
    unfold apX
    rw [if_neg (by omega), if_neg (by omega)]
    exact h.rest a h1
theorem ApI.stop {r o : Nat → Nat} {i j : Nat} (h : ApI r o i j) (hs : j = 0 ∨ ¬ r (o (j - 1)) < r i) : ApO r o (i + 1) where
  ord a b h1 h2 := by
    have hj := h.le
    by_cases e : a = j
    · rw [e, h.at_]; exact h.up b (by omega) (by omega)
    · by_cases g : b = j
      · rw [g, h.at_]
        have hlt := h.lt (j - 1) (by omega) (by omega)
        have h3 : apB r (o (j - 1)) i = true := apB_iff.2 (by omega)
        by_cases k : a = j - 1
        · rw [k]; exact h3
        · exact apB_trans (h.ord a (j - 1) (by omega) (by omega) e (by omega)) h3
      · exact h.ord a b h1 (by omega) e g
  lt a h1 := by
    by_cases e : a = j
    · rw [e, h.at_]; omega
    · have := h.lt a (by omega) e; omega
  rest a h1 := h.rest a (by omega)
theorem ApO.rank {r o : Nat → Nat} {n : Nat} (h : ApO r o n) {a : Nat} (ha : a < n) : apR r n (o a) = a := apR_sorted h.lt h.ord ha
/-- One more is raised. -/
theorem ap_raise {r : Nat → Nat} {n t b i : Nat} (hb : b < n) (hi : i < n) (h : apR r n b = t) : (if apR r n i < t + 1 then 1 else 0) = (if apR r n i < t then 1 else 0) + (if i = b then 1 else 0) := by
  by_cases e : i = b
  · rw [e, h, if_pos (Nat.lt_succ_self t), if_neg (Nat.lt_irrefl t), if_pos rfl]
  · have hne : apR r n i ≠ t := fun g => e (apR_inj hi hb (by rw [g, h]))
    rw [if_neg e]
    by_cases g : apR r n i < t
    · rw [if_pos g, if_pos (by omega)]
    · rw [if_neg g, if_neg (by omega)]
end Go.Proofs.Ytgdpcpbmjgaliaa
