/-
  Several parts put together: LM1, LM2, LM3.
-/
import Derived.Test.YtpaochhaenehmaaGA
/- Part LM1. -/

namespace Go.Proofs.Ytpaochhaenehmaa
open Nd

/-- The first row from r on (below n) that isn't 0 in column c; n if there is none. -/
def pivF (f : Nat → Nat → Rat) (n c : Nat) : Nat → Nat → Nat
  | 0, r => r
  | d + 1, r => if f r c ≠ 0 then r else pivF f n c d (r + 1)
def pivR (f : Nat → Nat → Rat) (n r c : Nat) : Nat := pivF f n c (n - r) r
theorem pivF_bound (f : Nat → Nat → Rat) (n c : Nat) : ∀ d r, r ≤ pivF f n c d r ∧ pivF f n c d r ≤ r + d
  | 0, r => ⟨Nat.le_refl _, Nat.le_refl _⟩
  | d + 1, r => by
    unfold pivF
    split
    · exact ⟨Nat.le_refl _, by omega⟩
    · have := pivF_bound f n c d (r + 1); exact ⟨by omega, by omega⟩
theorem pivF_hit (f : Nat → Nat → Rat) (n c : Nat) : ∀ d r, pivF f n c d r < r + d → f (pivF f n c d r) c ≠ 0
  | 0, r, h => by unfold pivF at h; omega
  | d + 1, r, h => by
    unfold pivF at h ⊢
    split at h
    · rename_i h1; rw [if_pos h1]; exact h1
    · rename_i h1; rw [if_neg h1]; exact pivF_hit f n c d (r + 1) (by omega)
theorem pivF_zero (f : Nat → Nat → Rat) (n c : Nat) : ∀ d r i, r ≤ i → i < pivF f n c d r → f i c = 0
  | 0, r, i, h1, h2 => by unfold pivF at h2; omega
  | d + 1, r, i, h1, h2 => by
    unfold pivF at h2
    split at h2
    · omega
    · rename_i h3
      rcases Nat.eq_or_lt_of_le h1 with rfl | h4
      · exact Classical.byContradiction h3
      · exact pivF_zero f n c d (r + 1) i h4 h2
theorem pivR_le {f : Nat → Nat → Rat} {n r c : Nat} (h : r ≤ n) : r ≤ pivR f n r c ∧ pivR f n r c ≤ n := by
  have := pivF_bound f n c (n - r) r; unfold pivR; omega
theorem pivR_hit {f : Nat → Nat → Rat} {n r c : Nat} (hr : r ≤ n) (h : pivR f n r c < n) : f (pivR f n r c) c ≠ 0 := pivF_hit f n c (n - r) r (by unfold pivR at h; omega)
theorem pivR_zero {f : Nat → Nat → Rat} {n r c i : Nat} (h1 : r ≤ i) (h2 : i < pivR f n r c) : f i c = 0 := pivF_zero f n c (n - r) r i h1 h2
/-- The pivot is the first row that is not 0. -/
theorem pivR_is {f : Nat → Nat → Rat} {n r c p : Nat} (h1 : r ≤ p) (h2 : p < n) (h3 : f p c ≠ 0) (h4 : ∀ i, r ≤ i → i < p → f i c = 0) : pivR f n r c = p := by
  have hb := pivR_le (f := f) (c := c) (show r ≤ n by omega)
  rcases Nat.lt_trichotomy (pivR f n r c) p with h | h | h
  · exact absurd (h4 _ hb.1 h) (pivR_hit (by omega) (by omega))
  · exact h
  · exact absurd (pivR_zero h1 h) h3
theorem pivR_none {f : Nat → Nat → Rat} {n r c : Nat} (hr : r ≤ n) (h : ∀ i, r ≤ i → i < n → f i c = 0) : pivR f n r c = n := by
  have hb := pivR_le (f := f) (c := c) hr
  rcases Nat.lt_or_ge (pivR f n r c) n with h1 | h1
  · exact absurd (h _ hb.1 h1) (pivR_hit hr h1)
  · omega
theorem pivR_congr {f g : Nat → Nat → Rat} {n r c : Nat} (hr : r ≤ n) (h : ∀ i, r ≤ i → i < n → (f i c = 0 ↔ g i c = 0)) : pivR f n r c = pivR g n r c := by
  have hb := pivR_le (f := f) (c := c) hr
  rcases Nat.lt_or_ge (pivR f n r c) n with h1 | h1
  · exact (pivR_is hb.1 h1 (mt (h _ hb.1 h1).2 (pivR_hit hr h1)) (fun i hi hj => (h i hi (by omega)).1 (pivR_zero hi hj))).symm
  · have e : pivR f n r c = n := by omega
    rw [e]
    exact (pivR_none hr (fun i hi hj => (h i hi hj).1 (pivR_zero (n := n) hi (by omega)))).symm

def swp (f : Nat → Nat → Rat) (r p : Nat) : Nat → Nat → Rat := fun i => if i = r then f p else if i = p then f r else f i
/-- Row r divided by its element in column c. -/
def lead (f : Nat → Nat → Rat) (r c : Nat) : Nat → Nat → Rat := fun i j => if i = r then f r j / f r c else f i j
/-- Column c cleared but for row r. -/
def clr (f : Nat → Nat → Rat) (r c : Nat) : Nat → Nat → Rat := fun i j => if i = r then f r j else f i j - f i c * f r j
/-- One step: column c with r pivots found so far; p the pivot row. -/
def stp (f : Nat → Nat → Rat) (r c p : Nat) : Nat → Nat → Rat := clr (lead (swp f r p) r c) r c
/-- The reduced form after c columns, and the pivots. -/
def ech (f : Nat → Nat → Rat) (n : Nat) : Nat → (Nat → Nat → Rat) × List Nat
  | 0 => (f, [])
  | c + 1 => if pivR (ech f n c).1 n (ech f n c).2.length c < n then (stp (ech f n c).1 (ech f n c).2.length c (pivR (ech f n c).1 n (ech f n c).2.length c), (ech f n c).2 ++ [c]) else ech f n c

theorem stp_r (f : Nat → Nat → Rat) (r c p j : Nat) : stp f r c p r j = f p j / f p c := by simp [stp, clr, lead, swp]
theorem stp_ne (f : Nat → Nat → Rat) {r c p i : Nat} (j : Nat) (h : i ≠ r) : stp f r c p i j = swp f r p i j - swp f r p i c * (f p j / f p c) := by simp [stp, clr, lead, swp, h]
theorem swp_low (f : Nat → Nat → Rat) {r p i : Nat} (h : i < r) (hp : r ≤ p) : swp f r p i = f i := by unfold swp; rw [if_neg (by omega), if_neg (by omega)]
/-- What holds of the form after c columns. -/
structure Ech (f : Nat → Nat → Rat) (pv : List Nat) (n c : Nat) : Prop where
  len : pv.length ≤ n
  lt : ∀ t, t < pv.length → pv.getD t 0 < c
  one : ∀ t, t < pv.length → f t (pv.getD t 0) = 1
  other : ∀ t, t < pv.length → ∀ i, i < n → i ≠ t → f i (pv.getD t 0) = 0
  zero : ∀ i, pv.length ≤ i → i < n → ∀ j, j < c → f i j = 0
theorem getD_snoc_lt (l : List Nat) (c : Nat) {t : Nat} (h : t < l.length) : (l ++ [c]).getD t 0 = l.getD t 0 := by
  simp [List.getD_eq_getElem?_getD, List.getElem?_append_left h]
theorem getD_snoc_eq (l : List Nat) (c : Nat) : (l ++ [c]).getD l.length 0 = c := by simp [List.getD_eq_getElem?_getD]
theorem Ech.start (f : Nat → Nat → Rat) (n : Nat) : Ech f [] n 0 :=
  ⟨Nat.zero_le _, fun t h => absurd h (by simp), fun t h => absurd h (by simp), fun t h => absurd h (by simp), fun i _ _ j h => absurd h (by omega)⟩
theorem Ech.skip {f : Nat → Nat → Rat} {pv : List Nat} {n c : Nat} (h : Ech f pv n c) (hz : ∀ i, pv.length ≤ i → i < n → f i c = 0) : Ech f pv n (c + 1) :=
  ⟨h.len, fun t ht => Nat.lt_succ_of_lt (h.lt t ht), h.one, h.other, fun i h1 h2 j hj => by
    rcases Nat.lt_or_ge j c with h3 | h3
    · exact h.zero i h1 h2 j h3
    · have : j = c := by omega
      subst this; exact hz i h1 h2⟩
theorem Ech.step {f : Nat → Nat → Rat} {pv : List Nat} {n c p : Nat} (h : Ech f pv n c) (hp1 : pv.length ≤ p) (hp2 : p < n) (hp3 : f p c ≠ 0) : Ech (stp f pv.length c p) (pv ++ [c]) n (c + 1) := by
  have hswz : ∀ i, pv.length ≤ i → i < n → ∀ j, j < c → swp f pv.length p i j = 0 := by
    intro i h1 h2 j hj
    unfold swp
    split
    · exact h.zero p hp1 hp2 j hj
    · split
      · exact h.zero _ (Nat.le_refl _) (by omega) j hj
      · exact h.zero i h1 h2 j hj
  have hrow : ∀ j, j < c → f p j / f p c = 0 := fun j hj => by rw [h.zero p hp1 hp2 j hj, Rat.div_def, Rat.zero_mul]
  have hd : f p c / f p c = 1 := by rw [Rat.div_def, Rat.mul_inv_cancel _ hp3]
  have keep : ∀ i, i < n → ∀ j, j < c → i ≠ pv.length → stp f pv.length c p i j = swp f pv.length p i j := by
    intro i _ j hj hne
    rw [stp_ne f j hne, hrow j hj]; grind
  have colc : ∀ i, i ≠ pv.length → stp f pv.length c p i c = 0 := by
    intro i hne
    rw [stp_ne f c hne, hd]; grind
  refine ⟨by simp; omega, fun t ht => ?_, fun t ht => ?_, fun t ht i hi hne => ?_, fun i h1 h2 j hj => ?_⟩
  · rw [List.length_append, List.length_singleton] at ht
    rcases Nat.lt_or_ge t pv.length with h1 | h1
    · rw [getD_snoc_lt _ _ h1]; have := h.lt t h1; omega
    · have : t = pv.length := by omega
      subst this; rw [getD_snoc_eq]; omega
  · rw [List.length_append, List.length_singleton] at ht
    rcases Nat.lt_or_ge t pv.length with h1 | h1
    · rw [getD_snoc_lt _ _ h1, keep t (by have := h.len; omega) _ (h.lt t h1) (by omega), swp_low f h1 hp1]; exact h.one t h1
    · have : t = pv.length := by omega
      subst this; rw [getD_snoc_eq, stp_r]; exact hd
  · rw [List.length_append, List.length_singleton] at ht
    rcases Nat.lt_or_ge t pv.length with h1 | h1
    · rw [getD_snoc_lt _ _ h1]
      have hlt := h.lt t h1
      by_cases hir : i = pv.length
      · subst hir; rw [stp_r]; exact hrow _ hlt
      · rw [keep i hi _ hlt hir]
        rcases Nat.lt_or_ge i pv.length with h2 | h2
        · rw [swp_low f h2 hp1]; exact h.other t h1 i hi hne
        · exact hswz i h2 hi _ hlt
    · have : t = pv.length := by omega
      subst this; rw [getD_snoc_eq]; exact colc i hne
  · rw [List.length_append, List.length_singleton] at h1
    rcases Nat.lt_or_ge j c with h3 | h3
    · rw [keep i h2 j h3 (by omega)]; exact hswz i (by omega) h2 j h3
    · have : j = c := by omega
      subst this; exact colc i (by omega)
theorem ech_holds (f : Nat → Nat → Rat) (n : Nat) : ∀ c, Ech (ech f n c).1 (ech f n c).2 n c
  | 0 => Ech.start f n
  | c + 1 => by
    have h := ech_holds f n c
    have hb := pivR_le (f := (ech f n c).1) (c := c) h.len
    unfold ech
    split
    · rename_i h1; exact h.step hb.1 h1 (pivR_hit h.len h1)
    · rename_i h1; exact h.skip (fun i h2 h3 => pivR_zero (n := n) h2 (by omega))

/-- E's rows are multiples of those of f, none by 0. -/
def Prp (E f : Nat → Nat → Rat) (n m : Nat) : Prop := ∃ t : Nat → Rat, ∀ i, i < n → t i ≠ 0 ∧ ∀ j, j < m → E i j = t i * f i j
theorem Prp.refl (f : Nat → Nat → Rat) (n m : Nat) : Prp f f n m := ⟨fun _ => 1, fun _ _ => ⟨by show (1 : Rat) ≠ 0; decide, fun _ _ => (Rat.one_mul _).symm⟩⟩
theorem Prp.zero_iff {E f : Nat → Nat → Rat} {n m i j : Nat} (h : Prp E f n m) (hi : i < n) (hj : j < m) : E i j = 0 ↔ f i j = 0 := by
  obtain ⟨t, ht⟩ := h
  obtain ⟨h1, h2⟩ := ht i hi
  rw [h2 j hj, Rat.mul_eq_zero]
  exact ⟨fun h => h.resolve_left h1, .inr⟩
theorem Prp.piv {E f : Nat → Nat → Rat} {n m r c : Nat} (h : Prp E f n m) (hr : r ≤ n) (hc : c < m) : pivR E n r c = pivR f n r c :=
  pivR_congr hr (fun _ _ hi => h.zero_iff hi hc)
/-- One step of elimination without fractions keeps the proportion. -/
theorem Prp.step {E G f : Nat → Nat → Rat} {n m r c p : Nat} (h : Prp E f n m) (hr : r ≤ p) (hp : p < n) (hc : c < m) (hz : f p c ≠ 0)
    (hG : ∀ i, i < n → (i = r → ∀ j, j < m → G i j = E p j) ∧ (i ≠ r → swp E r p i c = 0 → ∀ j, j < m → G i j = swp E r p i j) ∧
      (i ≠ r → swp E r p i c ≠ 0 → ∃ s : Rat, s ≠ 0 ∧ ∀ j, j < m → G i j = s * (E p c * swp E r p i j - swp E r p i c * E p j))) : Prp G (stp f r c p) n m := by
  have hsw : Prp (swp E r p) (swp f r p) n m := by
    obtain ⟨t, ht⟩ := h
    refine ⟨fun i => if i = r then t p else if i = p then t r else t i, fun i hi => ?_⟩
    unfold swp
    by_cases h1 : i = r
    · simp only [h1, if_true]; exact ht p hp
    · by_cases h2 : i = p
      · simp only [h2, if_true]
        rw [if_neg (by omega)]
        have := ht r (by omega)
        refine ⟨this.1, fun j hj => ?_⟩
        rw [if_neg (by omega), if_neg (by omega)]; exact this.2 j hj
      · simp only [h1, h2, if_false]; exact ht i hi
  obtain ⟨u, hu⟩ := hsw
  obtain ⟨t, ht⟩ := h
  obtain ⟨tp0, tpE⟩ := ht p hp
  have key : ∀ i, ∃ v : Rat, i < n → v ≠ 0 ∧ ∀ j, j < m → G i j = v * stp f r c p i j := by
    intro i
    by_cases hi : i < n
    · obtain ⟨g1, g2, g3⟩ := hG i hi
      by_cases h1 : i = r
      · subst h1
        refine ⟨t p * f p c, fun _ => ⟨?_, fun j hj => ?_⟩⟩
        · intro hc0; rcases Rat.mul_eq_zero.1 hc0 with h | h
          · exact tp0 h
          · exact hz h
        · rw [g1 rfl j hj, tpE j hj, stp_r, Rat.mul_assoc, Rat.div_def, Rat.mul_comm (f p c), Rat.mul_assoc, Rat.inv_mul_cancel _ hz, Rat.mul_one]
      · obtain ⟨u0, uE⟩ := hu i hi
        by_cases h2 : swp E r p i c = 0
        · refine ⟨u i, fun _ => ⟨u0, fun j hj => ?_⟩⟩
          have h3 : swp f r p i c = 0 := by
            have := uE c hc; rw [h2] at this
            rcases Rat.mul_eq_zero.1 this.symm with h | h
            · exact absurd h u0
            · exact h
          rw [g2 h1 h2 j hj, uE j hj, stp_ne f j h1, h3]; grind
        · obtain ⟨s, s0, sE⟩ := g3 h1 h2
          refine ⟨s * (t p * f p c) * u i, fun _ => ⟨?_, fun j hj => ?_⟩⟩
          · intro hc0
            rcases Rat.mul_eq_zero.1 hc0 with h | h
            · rcases Rat.mul_eq_zero.1 h with h | h
              · exact s0 h
              · rcases Rat.mul_eq_zero.1 h with h | h
                · exact tp0 h
                · exact hz h
            · exact u0 h
          · rw [sE j hj, uE j hj, uE c hc, tpE j hj, tpE c hc, stp_ne f j h1]
            have e : f p c * (f p j / f p c) = f p j := by rw [Rat.div_def, Rat.mul_comm, Rat.mul_assoc, Rat.inv_mul_cancel _ hz, Rat.mul_one]
            generalize f p j / f p c = y at e ⊢
            rw [← e]
            grind
    · exact ⟨1, fun h => absurd h hi⟩
  obtain ⟨v, hv⟩ := Classical.axiomOfChoice key
  exact ⟨v, fun i hi => hv i hi⟩
/-- The reduced form out of rows that are proportional to it. -/
theorem Prp.form {E f : Nat → Nat → Rat} {pv : List Nat} {n m c : Nat} (h : Prp E f n m) (he : Ech f pv n c) {r j : Nat} (hr : r < pv.length) (hc : pv.getD r 0 < m) (hj : j < m) : E r (pv.getD r 0) ≠ 0 ∧ E r j / E r (pv.getD r 0) = f r j := by
  obtain ⟨t, ht⟩ := h
  obtain ⟨t0, tE⟩ := ht r (Nat.lt_of_lt_of_le hr he.len)
  rw [tE _ hc, tE _ hj, he.one r hr, Rat.mul_one]
  exact ⟨t0, by rw [Rat.div_def, Rat.mul_comm (t r), Rat.mul_assoc, Rat.mul_inv_cancel _ t0, Rat.mul_one]⟩

end Go.Proofs.Ytpaochhaenehmaa

/- Part LM2. -/

namespace Go.Proofs.Ytpaochhaenehmaa
open Nd

theorem Prp.trans {E F G : Nat → Nat → Rat} {n m : Nat} (h : Prp E F n m) (k : Prp F G n m) : Prp E G n m := by
  obtain ⟨t, ht⟩ := h
  obtain ⟨u, hu⟩ := k
  refine ⟨fun i => t i * u i, fun i hi => ?_⟩
  obtain ⟨t0, tE⟩ := ht i hi
  obtain ⟨u0, uE⟩ := hu i hi
  refine ⟨fun hc => ?_, fun j hj => ?_⟩
  · rcases Rat.mul_eq_zero.1 hc with h | h
    · exact t0 h
    · exact u0 h
  · rw [tE j hj, uE j hj, Rat.mul_assoc]
theorem Prp.swap {E F : Nat → Nat → Rat} {n m r p : Nat} (h : Prp E F n m) (hr : r < n) (hp : p < n) : Prp (swp E r p) (swp F r p) n m := by
  obtain ⟨t, ht⟩ := h
  refine ⟨fun i => if i = r then t p else if i = p then t r else t i, fun i hi => ?_⟩
  unfold swp
  by_cases h1 : i = r
  · simp only [h1, if_true]; exact ht p hp
  · by_cases h2 : i = p
    · simp only [h2, if_true]
      by_cases h3 : p = r
      · simp only [h3, if_true]; exact ht r hr
      · simp only [h3, if_false]; exact ht r hr
    · simp only [h1, h2, if_false]; exact ht i hi
theorem div_cancel {t a b : Rat} (ht : t ≠ 0) (hb : b ≠ 0) : (t * a) / (t * b) = a / b := by
  have h1 : t * b ≠ 0 := fun hc => by
    rcases Rat.mul_eq_zero.1 hc with h | h
    · exact ht h
    · exact hb h
  have e1 : (t * a) / (t * b) * (t * b) = t * a := by rw [Rat.div_def, Rat.mul_assoc, Rat.inv_mul_cancel _ h1, Rat.mul_one]
  have e2 : a / b * b = a := by rw [Rat.div_def, Rat.mul_assoc, Rat.inv_mul_cancel _ hb, Rat.mul_one]
  have e3 : a / b * (t * b) = t * a := by
    have : a / b * (t * b) = t * (a / b * b) := by grind
    rw [this, e2]
  have e4 : ((t * a) / (t * b) - a / b) * (t * b) = 0 := by
    have : ((t * a) / (t * b) - a / b) * (t * b) = (t * a) / (t * b) * (t * b) - a / b * (t * b) := by grind
    rw [this, e1, e3]; grind
  rcases Rat.mul_eq_zero.1 e4 with h | h
  · grind
  · exact absurd h h1
/-- One step keeps two proportional forms proportional. -/
theorem Prp.stp {E F : Nat → Nat → Rat} {n m r c p : Nat} (h : Prp E F n m) (hr : r < n) (hp : p < n) (hc : c < m) (hz : F p c ≠ 0) : Prp (stp E r c p) (stp F r c p) n m := by
  obtain ⟨u, hu⟩ := h.swap hr hp
  obtain ⟨t, ht⟩ := h
  obtain ⟨tp0, tpE⟩ := ht p hp
  have hq : ∀ j, j < m → E p j / E p c = F p j / F p c := fun j hj => by rw [tpE j hj, tpE c hc]; exact div_cancel tp0 hz
  refine ⟨fun i => if i = r then 1 else u i, fun i hi => ?_⟩
  by_cases h1 : i = r
  · subst h1
    simp only [if_true]
    exact ⟨by decide, fun j hj => by rw [stp_r, stp_r, hq j hj, Rat.one_mul]⟩
  · simp only [h1, if_false]
    obtain ⟨u0, uE⟩ := hu i hi
    refine ⟨u0, fun j hj => ?_⟩
    rw [stp_ne E j h1, stp_ne F j h1, hq j hj, uE j hj, uE c hc]
    grind
/-- Proportional rows have the same pivots, and their forms are proportional. -/
theorem Prp.ech {E F : Nat → Nat → Rat} {n m : Nat} (h : Prp E F n m) : ∀ c, c ≤ m → (ech E n c).2 = (ech F n c).2 ∧ Prp (ech E n c).1 (ech F n c).1 n m
  | 0, _ => ⟨rfl, h⟩
  | c + 1, hc => by
    obtain ⟨h1, h2⟩ := Prp.ech h c (by omega)
    have hE := ech_holds E n c
    have hF := ech_holds F n c
    have hp := h2.piv (r := (Go.Proofs.Ytpaochhaenehmaa.ech F n c).2.length) hF.len (show c < m by omega)
    rw [Go.Proofs.Ytpaochhaenehmaa.ech, Go.Proofs.Ytpaochhaenehmaa.ech, h1, hp]
    by_cases hlt : pivR (Go.Proofs.Ytpaochhaenehmaa.ech F n c).1 n (Go.Proofs.Ytpaochhaenehmaa.ech F n c).2.length c < n
    · rw [if_pos hlt, if_pos hlt]
      have hb := pivR_le (f := (Go.Proofs.Ytpaochhaenehmaa.ech F n c).1) (c := c) hF.len
      exact ⟨rfl, h2.stp (by omega) hlt (by omega) (pivR_hit hF.len hlt)⟩
    · rw [if_neg hlt, if_neg hlt]
      exact ⟨h1, h2⟩
theorem Ech.bound {f : Nat → Nat → Rat} {pv : List Nat} {n c : Nat} (h : Ech f pv n c) {t : Nat} (ht : t < pv.length) : pv.getD t 0 < c := h.lt t ht
/-- The reduced form's rows behind the pivots. -/
theorem Ech.rest {f : Nat → Nat → Rat} {pv : List Nat} {n m i j : Nat} (h : Ech f pv n m) (hi : pv.length ≤ i) (hin : i < n) (hj : j < m) : f i j = 0 := h.zero i hi hin j hj

end Go.Proofs.Ytpaochhaenehmaa

/- Part LM3. -/

namespace Go.Proofs.Ytpaochhaenehmaa
open Nd

theorem ech_asc (f : Nat → Nat → Rat) (n : Nat) : ∀ c t u, t < u → u < (ech f n c).2.length → (ech f n c).2.getD t 0 < (ech f n c).2.getD u 0
  | 0, t, u, _, hu => absurd hu (by simp [ech])
  | c + 1, t, u, h, hu => by
    have IH := ech_asc f n c
    have hE := ech_holds f n c
    by_cases h1 : pivR (ech f n c).1 n (ech f n c).2.length c < n
    · rw [ech, if_pos h1] at hu ⊢
      simp only at hu ⊢
      rw [List.length_append, List.length_singleton] at hu
      rcases Nat.lt_or_ge u (ech f n c).2.length with h2 | h2
      · rw [getD_snoc_lt _ _ (by omega), getD_snoc_lt _ _ h2]; exact IH t u h h2
      · obtain rfl : u = (ech f n c).2.length := by omega
        rw [getD_snoc_lt _ _ h, getD_snoc_eq]; exact hE.lt t h
    · rw [ech, if_neg h1] at hu ⊢
      exact IH t u h hu
theorem asc_ge {pv : List Nat} (hasc : ∀ t u, t < u → u < pv.length → pv.getD t 0 < pv.getD u 0) : ∀ t, t < pv.length → t ≤ pv.getD t 0
  | 0, _ => Nat.zero_le _
  | t + 1, h => by
    have h1 := asc_ge hasc t (by omega)
    have h2 := hasc t (t + 1) (by omega) h
    omega
theorem asc_add {pv : List Nat} (hasc : ∀ t u, t < u → u < pv.length → pv.getD t 0 < pv.getD u 0) (t : Nat) : ∀ d, t + d < pv.length → pv.getD t 0 + d ≤ pv.getD (t + d) 0
  | 0, _ => Nat.le_refl _
  | d + 1, h => by
    have h1 := asc_add hasc t d (by omega)
    have h2 := hasc (t + d) (t + (d + 1)) (by omega) h
    omega
theorem asc_full {pv : List Nat} {n : Nat} (hl : pv.length = n) (hasc : ∀ t u, t < u → u < pv.length → pv.getD t 0 < pv.getD u 0) (hlt : ∀ t, t < pv.length → pv.getD t 0 < n) (t : Nat) (ht : t < n) : pv.getD t 0 = t := by
  have h1 := asc_ge hasc t (by omega)
  have h2 := asc_add hasc t (n - 1 - t) (by omega)
  have h3 := hlt (t + (n - 1 - t)) (by omega)
  omega
theorem pivR_end (f : Nat → Nat → Rat) (n c : Nat) : pivR f n n c = n := by unfold pivR; rw [Nat.sub_self]; rfl
theorem ech_full {f : Nat → Nat → Rat} {n c : Nat} (h : (ech f n c).2.length = n) : ∀ d, ech f n (c + d) = ech f n c
  | 0 => rfl
  | d + 1 => by
    have IH := ech_full h d
    rw [show c + (d + 1) = (c + d) + 1 by omega, ech, IH, h, pivR_end, if_neg (Nat.lt_irrefl n)]
/-- The columns below c that bear no pivot. -/
def kcols (pv : List Nat) : Nat → List Nat
  | 0 => []
  | c + 1 => if c ∈ pv then kcols pv c else kcols pv c ++ [c]
theorem kcols_len (pv : List Nat) : ∀ c, (kcols pv c).length ≤ c
  | 0 => Nat.le_refl _
  | c + 1 => by
    have := kcols_len pv c
    unfold kcols
    split
    · omega
    · simp; omega
theorem kcols_lt (pv : List Nat) : ∀ c i, i < (kcols pv c).length → (kcols pv c).getD i 0 < c
  | 0, i, h => absurd h (by simp [kcols])
  | c + 1, i, h => by
    have IH := kcols_lt pv c
    unfold kcols at h ⊢
    split at h
    · rename_i h1; rw [if_pos h1]; have := IH i h; omega
    · rename_i h1
      rw [if_neg h1]
      rw [List.length_append, List.length_singleton] at h
      rcases Nat.lt_or_ge i (kcols pv c).length with h2 | h2
      · rw [getD_snoc_lt _ _ h2]; have := IH i h2; omega
      · obtain rfl : i = (kcols pv c).length := by omega
        rw [getD_snoc_eq]; omega
theorem mem_pv {pv : List Nat} {c : Nat} : c ∈ pv ↔ ∃ t, t < pv.length ∧ pv.getD t 0 = c := by
  constructor
  · intro h
    obtain ⟨t, ht, rfl⟩ := List.getElem_of_mem h
    exact ⟨t, ht, by simp [List.getD_eq_getElem?_getD, ht]⟩
  · rintro ⟨t, ht, rfl⟩
    rw [List.getD_eq_getElem?_getD, List.getElem?_eq_getElem ht]
    exact List.getElem_mem ht
/-- p pivots lie before column f. -/
structure Passed (pv : List Nat) (p f : Nat) : Prop where
  le : p ≤ pv.length
  lo : ∀ t, t < p → pv.getD t 0 < f
  hi : ∀ t, p ≤ t → t < pv.length → f ≤ pv.getD t 0
theorem Passed.start (pv : List Nat) : Passed pv 0 0 := ⟨Nat.zero_le _, fun t h => absurd h (by omega), fun _ _ _ => Nat.zero_le _⟩
theorem Passed.hit {pv : List Nat} {p f : Nat} (h : Passed pv p f) (hasc : ∀ t u, t < u → u < pv.length → pv.getD t 0 < pv.getD u 0) (h1 : p < pv.length) (h2 : pv.getD p 0 = f) : f ∈ pv ∧ Passed pv (p + 1) (f + 1) := by
  refine ⟨mem_pv.2 ⟨p, h1, h2⟩, h1, fun t ht => ?_, fun t ht hl => ?_⟩
  · rcases Nat.lt_or_ge t p with h3 | h3
    · have := h.lo t h3; omega
    · obtain rfl : t = p := by omega
      omega
  · have := hasc p t (by omega) hl; omega
theorem Passed.miss {pv : List Nat} {p f : Nat} (h : Passed pv p f) (h1 : p < pv.length → pv.getD p 0 ≠ f) (hasc : ∀ t u, t < u → u < pv.length → pv.getD t 0 < pv.getD u 0) : f ∉ pv ∧ Passed pv p (f + 1) := by
  refine ⟨fun hm => ?_, h.le, fun t ht => by have := h.lo t ht; omega, fun t ht hl => ?_⟩
  · obtain ⟨t, ht, he⟩ := mem_pv.1 hm
    rcases Nat.lt_or_ge t p with h3 | h3
    · have := h.lo t h3; omega
    · rcases Nat.eq_or_lt_of_le h3 with rfl | h4
      · exact h1 ht he
      · have h5 := hasc p t h4 ht
        have h6 := h.hi p (Nat.le_refl _) (by omega)
        omega
  · rcases Nat.eq_or_lt_of_le ht with rfl | h4
    · have := h.hi p (Nat.le_refl _) hl
      have := h1 hl
      omega
    · have h5 := hasc p t h4 hl
      have h6 := h.hi p (Nat.le_refl _) (by omega)
      omega
theorem kcols_in {pv : List Nat} {c : Nat} (h : c ∈ pv) : kcols pv (c + 1) = kcols pv c := by rw [kcols, if_pos h]
theorem kcols_out {pv : List Nat} {c : Nat} (h : c ∉ pv) : kcols pv (c + 1) = kcols pv c ++ [c] := by rw [kcols, if_neg h]

end Go.Proofs.Ytpaochhaenehmaa
