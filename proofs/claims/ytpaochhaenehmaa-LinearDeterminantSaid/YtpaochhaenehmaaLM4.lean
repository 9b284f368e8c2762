/-
  Elimination: what has the same solutions has the same reduced form; the kernel; a further column.
-/
import Derived.Test.YtpaochhaenehmaaGX
import Derived.Test.YtpaochhaenehmaaGT
namespace Go.Proofs.Ytpaochhaenehmaa
open Nd

theorem sumF_zero {p : Nat → Rat} : ∀ {m : Nat}, (∀ j, j < m → p j = 0) → sumF p m = 0
  | 0, _ => rfl
  | m + 1, h => by rw [sumF, sumF_zero (fun j hj => h j (by omega)), h m (by omega)]; grind
theorem sumF_congr {p q : Nat → Rat} : ∀ {m : Nat}, (∀ j, j < m → p j = q j) → sumF p m = sumF q m
  | 0, _ => rfl
  | m + 1, h => by rw [sumF, sumF, sumF_congr (fun j hj => h j (by omega)), h m (by omega)]
theorem sumF_add (p q : Nat → Rat) : ∀ m : Nat, sumF (fun j => p j + q j) m = sumF p m + sumF q m
  | 0 => by simp only [sumF]; grind
  | m + 1 => by rw [sumF, sumF, sumF, sumF_add p q m]; grind
theorem sumF_mul (a : Rat) (p : Nat → Rat) : ∀ m : Nat, sumF (fun j => a * p j) m = a * sumF p m
  | 0 => by simp only [sumF]; grind
  | m + 1 => by rw [sumF, sumF, sumF_mul a p m]; grind
theorem sumF_one {p : Nat → Rat} {m a : Nat} (ha : a < m) (h : ∀ j, j < m → j ≠ a → p j = 0) : sumF p m = p a := by
  induction m with
  | zero => omega
  | succ m ih =>
    rw [sumF]
    by_cases e : a = m
    · subst e; rw [sumF_zero (fun j hj => h j (by omega) (by omega))]; grind
    · rw [ih (by omega) (fun j hj hne => h j (by omega) hne), h m (by omega) (by omega)]; grind
theorem sumF_two {p : Nat → Rat} {m a b : Nat} (ha : a < m) (hb : b < m) (hab : a ≠ b) (h : ∀ j, j < m → j ≠ a → j ≠ b → p j = 0) : sumF p m = p a + p b := by
  have e1 := sumF_one (p := fun j => if j = b then 0 else p j) ha (fun j hj hne => by
    by_cases e : j = b
    · rw [if_pos e]
    · rw [if_neg e]; exact h j hj hne e)
  have e2 := sumF_one (p := fun j => if j = b then p j else 0) hb (fun j _ hne => if_neg hne)
  have e3 := sumF_add (fun j => if j = b then 0 else p j) (fun j => if j = b then p j else 0) m
  have e4 : sumF p m = sumF (fun j => (if j = b then 0 else p j) + (if j = b then p j else 0)) m := sumF_congr fun j _ => by
    by_cases e : j = b
    · rw [if_pos e, if_pos e]; grind
    · rw [if_neg e, if_neg e]; grind
  rw [e4, e3, e1, e2, if_neg hab, if_pos rfl]

/-- The product of row i and x. -/
def dotF (f : Nat → Nat → Rat) (m : Nat) (x : Nat → Rat) (i : Nat) : Rat := sumF (fun j => f i j * x j) m
/-- x is a solution of the homogeneous system. -/
def Null (f : Nat → Nat → Rat) (n m : Nat) (x : Nat → Rat) : Prop := ∀ i, i < n → dotF f m x i = 0
theorem dotF_row {f g : Nat → Nat → Rat} {m : Nat} {x : Nat → Rat} {i k : Nat} (h : ∀ j, j < m → f i j = g k j) : dotF f m x i = dotF g m x k :=
  sumF_congr fun j hj => by rw [h j hj]
theorem dot_swp (f : Nat → Nat → Rat) (r p m : Nat) (x : Nat → Rat) (i : Nat) : dotF (swp f r p) m x i = if i = r then dotF f m x p else if i = p then dotF f m x r else dotF f m x i := by
  unfold swp
  by_cases h1 : i = r
  · rw [if_pos h1]; exact dotF_row fun j _ => by rw [if_pos h1]
  · rw [if_neg h1]
    by_cases h2 : i = p
    · rw [if_pos h2]; exact dotF_row fun j _ => by rw [if_neg h1, if_pos h2]
    · rw [if_neg h2]; exact dotF_row fun j _ => by rw [if_neg h1, if_neg h2]
theorem dot_stp_r (f : Nat → Nat → Rat) (r c p m : Nat) (x : Nat → Rat) : dotF (stp f r c p) m x r = (f p c)⁻¹ * dotF f m x p := by
  unfold dotF
  rw [← sumF_mul]
  exact sumF_congr fun j _ => by rw [stp_r, Rat.div_def]; grind
theorem dot_stp_ne (f : Nat → Nat → Rat) {r c p m i : Nat} (x : Nat → Rat) (h : i ≠ r) : dotF (stp f r c p) m x i = dotF (swp f r p) m x i - swp f r p i c * ((f p c)⁻¹ * dotF f m x p) := by
  have e : dotF (stp f r c p) m x i = sumF (fun j => (fun j => swp f r p i j * x j) j + (fun j => (-(swp f r p i c * (f p c)⁻¹)) * (f p j * x j)) j) m :=
    sumF_congr fun j _ => by rw [stp_ne f j h, Rat.div_def]; grind
  rw [e, sumF_add, sumF_mul]
  unfold dotF
  grind
theorem stp_null {f : Nat → Nat → Rat} {n m r c p : Nat} {x : Nat → Rat} (hr : r ≤ p) (hp : p < n) (hz : f p c ≠ 0) : Null (stp f r c p) n m x ↔ Null f n m x := by
  have hi : (f p c)⁻¹ ≠ 0 := fun h => hz (by
    have := Rat.mul_inv_cancel _ hz
    rw [h] at this
    grind)
  constructor
  · intro h
    have hp0 : dotF f m x p = 0 := by
      have := h r (by omega)
      rw [dot_stp_r] at this
      exact (Rat.mul_eq_zero.1 this).resolve_left hi
    intro i hin
    by_cases e1 : i = p
    · rw [e1]; exact hp0
    · by_cases e2 : i = r
      · have := h p hp
        by_cases e3 : p = r
        · omega
        · rw [dot_stp_ne f x e3, dot_swp, if_neg e3, if_pos rfl, hp0] at this
          rw [e2]; grind
      · have := h i hin
        rw [dot_stp_ne f x e2, dot_swp, if_neg e2, if_neg e1, hp0] at this
        grind
  · intro h i hin
    by_cases e2 : i = r
    · rw [e2, dot_stp_r, h p hp]; grind
    · rw [dot_stp_ne f x e2, dot_swp, if_neg e2, h p hp]
      by_cases e1 : i = p
      · rw [if_pos e1, h r (by omega)]; grind
      · rw [if_neg e1, h i hin]; grind
theorem ech_null (f : Nat → Nat → Rat) (n m : Nat) (x : Nat → Rat) : ∀ c, Null (ech f n c).1 n m x ↔ Null f n m x
  | 0 => Iff.rfl
  | c + 1 => by
    have h := ech_holds f n c
    have hb := pivR_le (f := (ech f n c).1) (c := c) h.len
    rw [← ech_null f n m x c]
    by_cases h1 : pivR (ech f n c).1 n (ech f n c).2.length c < n
    · rw [ech, if_pos h1]; exact stp_null hb.1 h1 (pivR_hit h.len h1)
    · rw [ech, if_neg h1]
/-- Left of its pivot a row is 0. -/
theorem ech_left (f : Nat → Nat → Rat) (n : Nat) : ∀ c t, t < (ech f n c).2.length → ∀ j, j < (ech f n c).2.getD t 0 → (ech f n c).1 t j = 0
  | 0, t, h, _, _ => absurd h (by simp [ech])
  | c + 1, t, h, j, hj => by
    have IH := ech_left f n c
    have hE := ech_holds f n c
    have hb := pivR_le (f := (ech f n c).1) (c := c) hE.len
    by_cases h1 : pivR (ech f n c).1 n (ech f n c).2.length c < n
    · rw [ech, if_pos h1] at h hj ⊢
      simp only at h hj ⊢
      rw [List.length_append, List.length_singleton] at h
      rcases Nat.lt_or_ge t (ech f n c).2.length with h2 | h2
      · rw [getD_snoc_lt _ _ h2] at hj
        have hlt := hE.lt t h2
        rw [stp_ne _ j (by omega), swp_low _ h2 hb.1, IH t h2 j hj, hE.zero _ hb.1 h1 j (by omega), Rat.div_def]
        grind
      · obtain rfl : t = (ech f n c).2.length := by omega
        rw [getD_snoc_eq] at hj
        rw [stp_r, hE.zero _ hb.1 h1 j hj, Rat.div_def]; grind
    · rw [ech, if_neg h1] at h hj ⊢
      exact IH t h j hj

/-- A form that is reduced: with what lies left of the pivots. -/
structure Rref (F : Nat → Nat → Rat) (pv : List Nat) (n m : Nat) : Prop where
  ech : Ech F pv n m
  left : ∀ t, t < pv.length → ∀ j, j < pv.getD t 0 → F t j = 0
  asc : ∀ t u, t < u → u < pv.length → pv.getD t 0 < pv.getD u 0
theorem rref (f : Nat → Nat → Rat) (n m : Nat) : Rref (ech f n m).1 (ech f n m).2 n m := ⟨ech_holds f n m, ech_left f n m, ech_asc f n m⟩
theorem kv_piv {F : Nat → Nat → Rat} {pv : List Nat} {c : Nat} (hasc : ∀ t u, t < u → u < pv.length → pv.getD t 0 < pv.getD u 0) : ∀ i, i ≤ pv.length → ∀ t, t < i → kvF F pv c i (pv.getD t 0) = -(F t c)
  | 0, _, t, h => absurd h (by omega)
  | i + 1, hi, t, h => by
    show (if pv.getD t 0 = pv.getD i 0 then -(F i c) else kvF F pv c i (pv.getD t 0)) = _
    by_cases e : t = i
    · subst e; rw [if_pos rfl]
    · rw [if_neg (by have := hasc t i (by omega) (by omega); omega)]
      exact kv_piv hasc i (by omega) t (by omega)
theorem kv_other {F : Nat → Nat → Rat} {pv : List Nat} {c j : Nat} : ∀ i, (∀ t, t < i → j ≠ pv.getD t 0) → kvF F pv c i j = if j = c then 1 else 0
  | 0, _ => rfl
  | i + 1, h => by
    show (if j = pv.getD i 0 then -(F i c) else kvF F pv c i j) = _
    rw [if_neg (h i (by omega))]
    exact kv_other i (fun t ht => h t (by omega))
theorem kv_c {F : Nat → Nat → Rat} {pv : List Nat} {c : Nat} (hc : c ∉ pv) : kvF F pv c pv.length c = 1 := by
  rw [kv_other pv.length (fun t ht he => hc (mem_pv.2 ⟨t, ht, he.symm⟩)), if_pos rfl]
theorem kv_zero {F : Nat → Nat → Rat} {pv : List Nat} {c j : Nat} (hj : j ∉ pv) (hne : j ≠ c) : kvF F pv c pv.length j = 0 := by
  rw [kv_other pv.length (fun t ht he => hj (mem_pv.2 ⟨t, ht, he.symm⟩)), if_neg hne]
/-- A row of a reduced form times the kernel's vector at c of another one with the same pivots. -/
theorem row_kv {F G : Nat → Nat → Rat} {pv : List Nat} {n m c i : Nat} (hF : Rref F pv n m) (hG : Rref G pv n m) (hc : c ∉ pv) (hcm : c < m) (hi : i < pv.length) : dotF G m (kvF F pv c pv.length) i = G i c - F i c := by
  have hp : pv.getD i 0 < m := hG.ech.lt i hi
  have hne : pv.getD i 0 ≠ c := fun h => hc (mem_pv.2 ⟨i, hi, h⟩)
  unfold dotF
  rw [sumF_two hp hcm hne, hG.ech.one i hi, kv_piv hF.asc _ (Nat.le_refl _) i hi, kv_c hc]
  · grind
  · intro j hj h1 h2
    by_cases hm : j ∈ pv
    · obtain ⟨t, ht, he⟩ := mem_pv.1 hm
      rw [← he, hG.ech.other t ht i (by have := hG.ech.len; omega) (fun h => h1 (by rw [h, he]))]
      grind
    · rw [kv_zero hm h2]; grind
theorem Rref.kernel {F : Nat → Nat → Rat} {pv : List Nat} {n m c : Nat} (h : Rref F pv n m) (hc : c ∉ pv) (hcm : c < m) : Null F n m (kvF F pv c pv.length) := by
  intro i hi
  by_cases hl : i < pv.length
  · rw [row_kv h h hc hcm hl]; grind
  · exact sumF_zero fun j hj => by rw [h.ech.zero i (by omega) hi j hj]; grind
theorem Rref.sub {F G : Nat → Nat → Rat} {pv pw : List Nat} {n m : Nat} (hF : Rref F pv n m) (hG : Rref G pw n m) (hN : ∀ x, Null F n m x → Null G n m x) {c : Nat} (hcm : c < m) (hc : c ∉ pv) : c ∉ pw := by
  intro hm
  obtain ⟨s, hs, he⟩ := mem_pv.1 hm
  have h1 := hN _ (hF.kernel hc hcm) s (by have := hG.ech.len; omega)
  have h2 : dotF G m (kvF F pv c pv.length) s = G s c * kvF F pv c pv.length c := by
    refine sumF_one (p := fun j => G s j * kvF F pv c pv.length j) hcm fun j hj hne => ?_
    rcases Nat.lt_or_ge j c with h3 | h3
    · show G s j * _ = 0
      rw [hG.left s hs j (by omega)]; grind
    · show _ * kvF F pv c pv.length j = 0
      by_cases hmj : j ∈ pv
      · obtain ⟨t, ht, hte⟩ := mem_pv.1 hmj
        rw [← hte, kv_piv hF.asc _ (Nat.le_refl _) t ht, hF.left t ht c (by omega)]; grind
      · rw [kv_zero hmj hne]; grind
  rw [h2, kv_c hc, ← he, hG.ech.one s hs] at h1
  exact absurd h1 (by grind)
theorem asc_ext {pv pw : List Nat} (h1 : ∀ t u, t < u → u < pv.length → pv.getD t 0 < pv.getD u 0) (h2 : ∀ t u, t < u → u < pw.length → pw.getD t 0 < pw.getD u 0) (h : ∀ x, x ∈ pv ↔ x ∈ pw) : pv = pw := by
  have key : ∀ (a b : List Nat), a.Pairwise (· < ·) → b.Pairwise (· < ·) → (∀ x, x ∈ a ↔ x ∈ b) → a = b := by
    intro a
    induction a with
    | nil =>
      intro b _ _ hm
      cases b with
      | nil => rfl
      | cons y r => exact absurd ((hm y).2 (by simp)) (by simp)
    | cons x r ih =>
      intro b ha hb hm
      cases b with
      | nil => exact absurd ((hm x).1 (by simp)) (by simp)
      | cons y s =>
        obtain ⟨a1, a2⟩ := List.pairwise_cons.1 ha
        obtain ⟨b1, b2⟩ := List.pairwise_cons.1 hb
        have e : x = y := by
          rcases List.mem_cons.1 ((hm x).1 (by simp)) with h | h
          · exact h
          · rcases List.mem_cons.1 ((hm y).2 (by simp)) with h' | h'
            · exact h'.symm
            · have := a1 y h'; have := b1 x h; omega
        subst e
        rw [ih s a2 b2]
        intro z
        constructor
        · intro hz
          rcases List.mem_cons.1 ((hm z).1 (by simp [hz])) with h | h
          · have := a1 z hz; omega
          · exact h
        · intro hz
          rcases List.mem_cons.1 ((hm z).2 (by simp [hz])) with h | h
          · have := b1 z hz; omega
          · exact h
  have pw_of : ∀ {l : List Nat}, (∀ t u, t < u → u < l.length → l.getD t 0 < l.getD u 0) → l.Pairwise (· < ·) := fun {l} hl =>
    List.pairwise_iff_getElem.2 fun i j hi hj hij => by
      have := hl i j hij hj
      simpa [List.getD_eq_getElem?_getD, hi, hj] using this
  exact key pv pw (pw_of h1) (pw_of h2) h
theorem Rref.unique {F G : Nat → Nat → Rat} {pv pw : List Nat} {n m : Nat} (hF : Rref F pv n m) (hG : Rref G pw n m) (hN : ∀ x, Null F n m x ↔ Null G n m x) : pv = pw ∧ ∀ i, i < n → ∀ j, j < m → F i j = G i j := by
  have e : pv = pw := asc_ext hF.asc hG.asc fun x => by
    constructor
    · intro h
      obtain ⟨t, ht, he⟩ := mem_pv.1 h
      have hlt := hF.ech.lt t ht
      exact Classical.byContradiction fun hn => hG.sub hF (fun y => (hN y).2) (by omega) hn h
    · intro h
      obtain ⟨t, ht, he⟩ := mem_pv.1 h
      have hlt := hG.ech.lt t ht
      exact Classical.byContradiction fun hn => hF.sub hG (fun y => (hN y).1) (by omega) hn h
  subst e
  refine ⟨rfl, fun i hi j hj => ?_⟩
  by_cases hl : i < pv.length
  · by_cases hm : j ∈ pv
    · obtain ⟨t, ht, he⟩ := mem_pv.1 hm
      rw [← he]
      by_cases hit : i = t
      · rw [hit, hF.ech.one t ht, hG.ech.one t ht]
      · rw [hF.ech.other t ht i hi hit, hG.ech.other t ht i hi hit]
    · have h1 := (hN _).1 (hF.kernel hm hj) i hi
      rw [row_kv hF hG hm hj hl] at h1
      grind
  · rw [hF.ech.zero i (by omega) hi j hj, hG.ech.zero i (by omega) hi j hj]
/-- Two matrices with the same solutions have the same reduced form. -/
theorem ech_unique {f g : Nat → Nat → Rat} {n m : Nat} (h : ∀ x, Null f n m x ↔ Null g n m x) : (ech f n m).2 = (ech g n m).2 ∧ ∀ i, i < n → ∀ j, j < m → (ech f n m).1 i j = (ech g n m).1 i j :=
  (rref f n m).unique (rref g n m) fun x => by rw [ech_null, ech_null]; exact h x
/-- The vectors of the kernel are solutions. -/
theorem ker_null (f : Nat → Nat → Rat) {n m c : Nat} (hc : c ∉ (ech f n m).2) (hcm : c < m) : Null f n m (kvF (ech f n m).1 (ech f n m).2 c (ech f n m).2.length) :=
  (ech_null f n m _ m).1 ((rref f n m).kernel hc hcm)
/-- How many columns bear no pivot. -/
theorem kcols_count {pv : List Nat} (hasc : ∀ t u, t < u → u < pv.length → pv.getD t 0 < pv.getD u 0) : ∀ c p, (p ≤ pv.length ∧ (∀ t, t < p → pv.getD t 0 < c) ∧ ∀ t, p ≤ t → t < pv.length → c ≤ pv.getD t 0) → (kcols pv c).length + p = c
  | 0, p, ⟨h1, h2, _⟩ => by
    have : p = 0 := by
      rcases Nat.eq_zero_or_pos p with h | h
      · exact h
      · have := h2 0 h; omega
    subst this; rfl
  | c + 1, p, ⟨h1, h2, h3⟩ => by
    by_cases hm : c ∈ pv
    · rw [kcols_in hm]
      obtain ⟨t, ht, he⟩ := mem_pv.1 hm
      have htp : t < p := by
        rcases Nat.lt_or_ge t p with h | h
        · exact h
        · have := h3 t h ht; omega
      have hp : t + 1 = p := by
        rcases Nat.lt_or_ge (t + 1) p with h | h
        · have h4 := hasc t (t + 1) (by omega) (by omega)
          have h5 := h2 (t + 1) h
          omega
        · omega
      have := kcols_count hasc c t ⟨by omega, fun u hu => by have := hasc u t hu ht; omega, fun u hu hul => by
        rcases Nat.eq_or_lt_of_le hu with rfl | h
        · omega
        · have := hasc t u h hul; omega⟩
      omega
    · rw [kcols_out hm, List.length_append, List.length_singleton]
      have := kcols_count hasc c p ⟨h1, fun u hu => by
        have h4 := h2 u hu
        have h5 : pv.getD u 0 ≠ c := fun h => hm (mem_pv.2 ⟨u, by omega, h⟩)
        omega, fun u hu hul => by have := h3 u hu hul; omega⟩
      omega
theorem kcols_rank (f : Nat → Nat → Rat) (n m : Nat) : (kcols (ech f n m).2 m).length + (ech f n m).2.length = m :=
  kcols_count (ech_asc f n m) m _ ⟨Nat.le_refl _, fun t ht => (ech_holds f n m).lt t ht, fun t h1 h2 => absurd h2 (by omega)⟩
theorem kcols_notin {pv : List Nat} : ∀ c i, i < (kcols pv c).length → (kcols pv c).getD i 0 ∉ pv
  | 0, i, h => absurd h (by simp [kcols])
  | c + 1, i, h => by
    by_cases hm : c ∈ pv
    · rw [kcols_in hm] at h ⊢; exact kcols_notin c i h
    · rw [kcols_out hm] at h ⊢
      rw [List.length_append, List.length_singleton] at h
      rcases Nat.lt_or_ge i (kcols pv c).length with h2 | h2
      · rw [getD_snoc_lt _ _ h2]; exact kcols_notin c i h2
      · obtain rfl : i = (kcols pv c).length := by omega
        rw [getD_snoc_eq]; exact hm

/-! ### the reference's way to a solution: one column more -/
theorem sol_ok {f : Nat → Nat → Rat} {n : Nat} (hn : 0 < n) (h : (ech f n n).2.length = n) : ech f n (n + 1) = ech f n n ∧ (ech f n (n + 1)).2.getD (n - 1) 0 < n := by
  have e := ech_full h 1
  refine ⟨e, ?_⟩
  rw [e, asc_full h (ech_asc f n n) (ech_holds f n n).lt (n - 1) (by omega)]; omega
theorem sol_sing {f : Nat → Nat → Rat} {n : Nat} (h : (ech f n n).2.length < n) : (ech f n (n + 1)).2.length < n ∨ ((ech f n (n + 1)).2.length = n ∧ n ≤ (ech f n (n + 1)).2.getD (n - 1) 0) := by
  by_cases h1 : pivR (ech f n n).1 n (ech f n n).2.length n < n
  · rw [ech, if_pos h1]
    simp only
    rw [List.length_append, List.length_singleton]
    rcases Nat.lt_or_ge ((ech f n n).2.length + 1) n with h2 | h2
    · exact .inl h2
    · have e : (ech f n n).2.length = n - 1 := by omega
      refine .inr ⟨by omega, ?_⟩
      rw [← e, getD_snoc_eq]; exact Nat.le_refl _
  · rw [ech, if_neg h1]; exact .inl h
end Go.Proofs.Ytpaochhaenehmaa
