/-
  The determinant: Bareiss's method stays with integers (up to five rows); rows that are multiplied.
-/
import Derived.Test.YtpaochhaenehmaaLM4
namespace Go.Proofs.Ytpaochhaenehmaa
open Nd

/-- The determinant, along the first column. -/
def det : Nat → (Nat → Nat → Rat) → Rat
  | 0, _ => 1
  | n + 1, f => sumF (fun i => (if i % 2 = 0 then 1 else -1) * f i 0 * det n (fun a b => f (if a < i then a else a + 1) (b + 1))) (n + 1)
theorem chio2 (f : Nat → Nat → Rat) (t : Nat → Rat) (h : ∀ i, f (i + 1) 0 = t i * f 0 0) : det 2 f = f 0 0 * det 1 (fun i j => f (i + 1) (j + 1) - t i * f 0 (j + 1)) := by
  have h0 := h 0
  simp [det, sumF] at h0 ⊢
  grind
theorem chio3 (f : Nat → Nat → Rat) (t : Nat → Rat) (h : ∀ i, f (i + 1) 0 = t i * f 0 0) : det 3 f = f 0 0 * det 2 (fun i j => f (i + 1) (j + 1) - t i * f 0 (j + 1)) := by
  have h0 := h 0
  have h1 := h 1
  simp [det, sumF] at h0 h1 ⊢
  rw [h0, h1]
  generalize f 0 0 = a00
  generalize f 0 1 = a01
  generalize f 0 2 = a02
  generalize f 1 1 = a11
  generalize f 1 2 = a12
  generalize f 2 1 = a21
  generalize f 2 2 = a22
  generalize t 0 = t0
  generalize t 1 = t1
  grind
theorem chio4 (f : Nat → Nat → Rat) (t : Nat → Rat) (h : ∀ i, f (i + 1) 0 = t i * f 0 0) : det 4 f = f 0 0 * det 3 (fun i j => f (i + 1) (j + 1) - t i * f 0 (j + 1)) := by
  have h0 := h 0
  have h1 := h 1
  have h2 := h 2
  simp [det, sumF] at h0 h1 h2 ⊢
  rw [h0, h1, h2]
  generalize f 0 0 = a00
  generalize f 0 1 = a01
  generalize f 0 2 = a02
  generalize f 0 3 = a03
  generalize f 1 1 = a11
  generalize f 1 2 = a12
  generalize f 1 3 = a13
  generalize f 2 1 = a21
  generalize f 2 2 = a22
  generalize f 2 3 = a23
  generalize f 3 1 = a31
  generalize f 3 2 = a32
  generalize f 3 3 = a33
  generalize t 0 = t0
  generalize t 1 = t1
  generalize t 2 = t2
  grind
set_option maxHeartbeats 4000000 in
theorem chio5 (f : Nat → Nat → Rat) (t : Nat → Rat) (h : ∀ i, f (i + 1) 0 = t i * f 0 0) : det 5 f = f 0 0 * det 4 (fun i j => f (i + 1) (j + 1) - t i * f 0 (j + 1)) := by
  have h0 := h 0
  have h1 := h 1
  have h2 := h 2
  have h3 := h 3
  simp [det, sumF] at h0 h1 h2 h3 ⊢
  rw [h0, h1, h2, h3]
  generalize f 0 0 = a00
  generalize f 0 1 = a01
  generalize f 0 2 = a02
  generalize f 0 3 = a03
  generalize f 0 4 = a04
  generalize f 1 1 = a11
  generalize f 1 2 = a12
  generalize f 1 3 = a13
  generalize f 1 4 = a14
  generalize f 2 1 = a21
  generalize f 2 2 = a22
  generalize f 2 3 = a23
  generalize f 2 4 = a24
  generalize f 3 1 = a31
  generalize f 3 2 = a32
  generalize f 3 3 = a33
  generalize f 3 4 = a34
  generalize f 4 1 = a41
  generalize f 4 2 = a42
  generalize f 4 3 = a43
  generalize f 4 4 = a44
  generalize t 0 = t0
  generalize t 1 = t1
  generalize t 2 = t2
  generalize t 3 = t3
  grind
theorem chio {s : Nat} (h1 : 1 ≤ s) (h4 : s ≤ 4) (f : Nat → Nat → Rat) (t : Nat → Rat) (h : ∀ i, f (i + 1) 0 = t i * f 0 0) : det (s + 1) f = f 0 0 * det s (fun i j => f (i + 1) (j + 1) - t i * f 0 (j + 1)) := by
  match s, h1, h4 with
  | 1, _, _ => exact chio2 f t h
  | 2, _, _ => exact chio3 f t h
  | 3, _, _ => exact chio4 f t h
  | 4, _, _ => exact chio5 f t h

/-- q is an integer. -/
def IsInt (q : Rat) : Prop := ∃ z : Int, q = (z : Rat)
theorem IsInt.add {a b : Rat} (h : IsInt a) (k : IsInt b) : IsInt (a + b) := by
  obtain ⟨x, rfl⟩ := h; obtain ⟨y, rfl⟩ := k; exact ⟨x + y, by simp⟩
theorem IsInt.mul {a b : Rat} (h : IsInt a) (k : IsInt b) : IsInt (a * b) := by
  obtain ⟨x, rfl⟩ := h; obtain ⟨y, rfl⟩ := k; exact ⟨x * y, by simp⟩
theorem IsInt.sum {p : Nat → Rat} : ∀ {m : Nat}, (∀ j, j < m → IsInt (p j)) → IsInt (sumF p m)
  | 0, _ => ⟨0, rfl⟩
  | m + 1, h => (IsInt.sum (fun j hj => h j (by omega))).add (h m (by omega))
theorem det_int : ∀ (s : Nat) (f : Nat → Nat → Rat), (∀ a, a < s → ∀ b, b < s → IsInt (f a b)) → IsInt (det s f)
  | 0, _, _ => ⟨1, rfl⟩
  | s + 1, f, h => IsInt.sum fun i hi => ((show IsInt (if i % 2 = 0 then 1 else -1) by
      split
      · exact ⟨1, rfl⟩
      · exact ⟨-1, rfl⟩).mul (h i hi 0 (by omega))).mul (det_int s _ fun a ha b hb => h _ (by split <;> omega) _ (by omega))
theorem det_congr : ∀ (s : Nat) {f g : Nat → Nat → Rat}, (∀ a, a < s → ∀ b, b < s → f a b = g a b) → det s f = det s g
  | 0, _, _, _ => rfl
  | s + 1, f, g, h => sumF_congr fun i hi => by
      show (if i % 2 = 0 then 1 else -1) * f i 0 * det s (fun a b => f (if a < i then a else a + 1) (b + 1)) = (if i % 2 = 0 then 1 else -1) * g i 0 * det s (fun a b => g (if a < i then a else a + 1) (b + 1))
      rw [h i hi 0 (by omega), det_congr s (fun a ha b hb => h _ (by split <;> omega) _ (by omega))]

/-! ### elimination below the pivots -/
/-- One step: column c, the pivot row p. -/
def gst (f : Nat → Nat → Rat) (c p : Nat) : Nat → Nat → Rat := fun i j => if i ≤ c then swp f c p i j else swp f c p i j - swp f c p i c / f p c * f p j
def gau (f : Nat → Nat → Rat) (n : Nat) : Nat → Nat → Nat → Rat
  | 0 => f
  | c + 1 => if pivR (gau f n c) n c c < n then gst (gau f n c) c (pivR (gau f n c) n c c) else gau f n c
/-- The pivot row of step c. -/
def gp (f : Nat → Nat → Rat) (n c : Nat) : Nat := pivR (gau f n c) n c c
/-- The product of the first pivots. -/
def gP (f : Nat → Nat → Rat) (n : Nat) : Nat → Rat
  | 0 => 1
  | c + 1 => gP f n c * gau f n c (gp f n c) c
/-- Whether rows were exchanged an odd number of times. -/
def gS (f : Nat → Nat → Rat) (n : Nat) : Nat → Bool
  | 0 => false
  | c + 1 => if gp f n c = c then gS f n c else !gS f n c
def Full (f : Nat → Nat → Rat) (n c : Nat) : Prop := ∀ d, d < c → gp f n d < n
theorem gau_succ {f : Nat → Nat → Rat} {n c : Nat} (h : gp f n c < n) : gau f n (c + 1) = gst (gau f n c) c (gp f n c) := by rw [gau]; exact if_pos h
theorem gp_le {f : Nat → Nat → Rat} {n c : Nat} (h : c ≤ n) : c ≤ gp f n c ∧ gp f n c ≤ n := pivR_le h
theorem gp_hit {f : Nat → Nat → Rat} {n c : Nat} (hc : c ≤ n) (h : gp f n c < n) : gau f n c (gp f n c) c ≠ 0 := pivR_hit hc h
/-- Where row i comes from when rows c and p are exchanged. -/
def sw (c p i : Nat) : Nat := if i = c then p else if i = p then c else i
theorem swp_sw (f : Nat → Nat → Rat) (c p i : Nat) : swp f c p i = f (sw c p i) := by
  unfold swp sw
  by_cases h : i = c
  · rw [if_pos h, if_pos h]
  · rw [if_neg h, if_neg h]
    by_cases h2 : i = p
    · rw [if_pos h2, if_pos h2]
    · rw [if_neg h2, if_neg h2]
theorem sw_in {c p i n : Nat} (hp : c ≤ p) (hpn : p < n) (hi : i < n) : sw c p i < n ∧ (c ≤ i → c ≤ sw c p i) := by
  unfold sw
  by_cases h : i = c
  · rw [if_pos h]; exact ⟨hpn, fun _ => hp⟩
  · rw [if_neg h]
    by_cases h2 : i = p
    · rw [if_pos h2]; exact ⟨by omega, fun _ => Nat.le_refl _⟩
    · rw [if_neg h2]; exact ⟨hi, fun h => h⟩
theorem gau_row {f : Nat → Nat → Rat} {n c : Nat} (h : gp f n c < n) {i : Nat} (hi : c < i) (j : Nat) : gau f n (c + 1) i j = gau f n c (sw c (gp f n c) i) j - gau f n c (sw c (gp f n c) i) c / gau f n c (gp f n c) c * gau f n c (gp f n c) j := by
  rw [gau_succ h]; unfold gst; rw [if_neg (by omega), swp_sw]
theorem gau_top {f : Nat → Nat → Rat} {n c : Nat} (h : gp f n c < n) {i : Nat} (hi : i ≤ c) (j : Nat) : gau f n (c + 1) i j = gau f n c (sw c (gp f n c) i) j := by
  rw [gau_succ h]; unfold gst; rw [if_pos hi, swp_sw]
theorem div_mul_self {a b : Rat} (h : b ≠ 0) : a / b * b = a := by rw [Rat.div_def, Rat.mul_assoc, Rat.inv_mul_cancel _ h, Rat.mul_one]
theorem gau_int {f : Nat → Nat → Rat} {n : Nat} (hf : ∀ i, i < n → ∀ j, j < n → IsInt (f i j)) : ∀ c, c ≤ n → Full f n c → ∀ s, 1 ≤ s → c + s ≤ 5 → ∀ ρ γ : Nat → Nat, (∀ a, a < s → c ≤ ρ a ∧ ρ a < n) → (∀ b, b < s → c ≤ γ b ∧ γ b < n) → IsInt (gP f n c * det s (fun a b => gau f n c (ρ a) (γ b)))
  | 0, _, _, s, _, _, ρ, γ, hr, hg => by
    rw [gP, Rat.one_mul]
    exact det_int s _ fun a ha b hb => hf _ (hr a ha).2 _ (hg b hb).2
  | c + 1, hcn, hF, s, hs, h5, ρ, γ, hr, hg => by
    have hp := hF c (by omega)
    have hb := gp_le (f := f) (n := n) (c := c) (by omega)
    have hz := gp_hit (f := f) (n := n) (c := c) (by omega) hp
    have IH := gau_int hf c (by omega) (fun d hd => hF d (by omega)) (s + 1) (by omega) (by omega)
      (fun a => match a with | 0 => gp f n c | a + 1 => sw c (gp f n c) (ρ a)) (fun b => match b with | 0 => c | b + 1 => γ b)
      (fun a ha => by
        cases a with
        | zero => exact ⟨hb.1, hp⟩
        | succ a =>
          have := hr a (by omega)
          have h9 := sw_in hb.1 hp this.2
          exact ⟨h9.2 (by omega), h9.1⟩)
      (fun b hb' => by
        cases b with
        | zero => exact ⟨Nat.le_refl _, by show c < n; omega⟩
        | succ b => have h9 := hg b (by omega); exact ⟨by show c ≤ γ b; omega, h9.2⟩)
    have e := chio hs (by omega) (fun a b => gau f n c ((fun a => match a with | 0 => gp f n c | a + 1 => sw c (gp f n c) (ρ a)) a) ((fun b => match b with | 0 => c | b + 1 => γ b) b)) (fun a => gau f n c (sw c (gp f n c) (ρ a)) c / gau f n c (gp f n c) c) (fun i => (div_mul_self hz).symm)
    rw [e] at IH
    have e2 : det s (fun a b => gau f n (c + 1) (ρ a) (γ b)) = det s (fun i j => gau f n c (sw c (gp f n c) (ρ i)) (γ j) - gau f n c (sw c (gp f n c) (ρ i)) c / gau f n c (gp f n c) c * gau f n c (gp f n c) (γ j)) :=
      det_congr s fun a ha b _ => gau_row hp (by have := hr a ha; omega) _
    rw [gP, e2, Rat.mul_assoc]
    exact IH
/-- The numbers of Bareiss's method are integers. -/
theorem bar_int {f : Nat → Nat → Rat} {n c k j : Nat} (hf : ∀ i, i < n → ∀ j, j < n → IsInt (f i j)) (hc : c ≤ n) (hF : Full f n c) (h4 : c ≤ 4) (hk : c ≤ k) (hkn : k < n) (hj : c ≤ j) (hjn : j < n) : IsInt (gP f n c * gau f n c k j) := by
  have := gau_int hf c hc hF 1 (Nat.le_refl _) (by omega) (fun _ => k) (fun _ => j) (fun _ _ => ⟨hk, hkn⟩) (fun _ _ => ⟨hj, hjn⟩)
  have e : det 1 (fun _ _ => gau f n c k j) = gau f n c k j := by simp [det, sumF]; grind
  rwa [e] at this
/-- Bareiss's step. -/
theorem bar_step {f : Nat → Nat → Rat} {n c k : Nat} (hc : c ≤ n) (h : gp f n c < n) (hk : c < k) (j : Nat) :
    (gP f n c * gau f n c (gp f n c) c) * (gP f n c * gau f n c (sw c (gp f n c) k) j) - (gP f n c * gau f n c (sw c (gp f n c) k) c) * (gP f n c * gau f n c (gp f n c) j) = gP f n c * (gP f n (c + 1) * gau f n (c + 1) k j) := by
  have hz := gp_hit hc h
  rw [gau_row h hk, gP]
  have e := div_mul_self (a := gau f n c (sw c (gp f n c) k) c) hz
  generalize gau f n c (sw c (gp f n c) k) c / gau f n c (gp f n c) c = t at e ⊢
  rw [← e]
  generalize gau f n c (gp f n c) c = a at *
  grind
theorem gP_ne {f : Nat → Nat → Rat} {n : Nat} : ∀ c, c ≤ n → Full f n c → gP f n c ≠ 0
  | 0, _, _ => by rw [gP]; decide
  | c + 1, h, hF => by
    rw [gP]
    intro h0
    rcases Rat.mul_eq_zero.1 h0 with h1 | h1
    · exact gP_ne c (by omega) (fun d hd => hF d (by omega)) h1
    · exact gp_hit (by omega) (hF c (by omega)) h1

/-! ### rows multiplied -/
def prodF (p : Nat → Rat) : Nat → Rat
  | 0 => 1
  | j + 1 => prodF p j * p j
theorem prodF_congr {p q : Nat → Rat} : ∀ {m : Nat}, (∀ j, j < m → p j = q j) → prodF p m = prodF q m
  | 0, _ => rfl
  | m + 1, h => by rw [prodF, prodF, prodF_congr (fun j hj => h j (by omega)), h m (by omega)]
theorem prodF_out (p : Nat → Rat) (a : Nat) : ∀ m, a < m → prodF p m = p a * prodF (fun i => if i = a then 1 else p i) m
  | 0, h => absurd h (by omega)
  | m + 1, h => by
    rw [prodF, prodF]
    by_cases e : a = m
    · subst e
      rw [if_pos rfl, prodF_congr (q := fun i => if i = a then 1 else p i) (fun j hj => (if_neg (by omega)).symm)]; grind
    · rw [prodF_out p a m (by omega), if_neg (fun h => e h.symm)]; grind
theorem prodF_sw (p : Nat → Rat) {c q m : Nat} (hc : c < m) (hq : q < m) : prodF (fun i => p (sw c q i)) m = prodF p m := by
  by_cases e : c = q
  · subst e
    exact prodF_congr fun j _ => by
      unfold sw
      by_cases h : j = c
      · rw [if_pos h, h]
      · rw [if_neg h, if_neg h]
  · rw [prodF_out (fun i => p (sw c q i)) c m hc, prodF_out (fun i => if i = c then 1 else p (sw c q i)) q m hq, prodF_out p c m hc, prodF_out (fun i => if i = c then 1 else p i) q m hq]
    have e1 : sw c q c = q := by unfold sw; rw [if_pos rfl]
    have e2 : sw c q q = c := by unfold sw; rw [if_neg (fun h => e h.symm), if_pos rfl]
    rw [e1, if_neg (fun h => e h.symm), e2, if_neg (fun h => e h.symm)]
    rw [prodF_congr (p := fun i => if i = q then 1 else if i = c then 1 else p (sw c q i)) (q := fun i => if i = q then 1 else if i = c then 1 else p i) (fun j _ => by
      by_cases h1 : j = q
      · rw [if_pos h1, if_pos h1]
      · rw [if_neg h1, if_neg h1]
        by_cases h2 : j = c
        · rw [if_pos h2, if_pos h2]
        · rw [if_neg h2, if_neg h2]; unfold sw; rw [if_neg h2, if_neg h1])]
    grind
theorem gau_scale {E Q : Nat → Nat → Rat} {φ : Nat → Rat} {n : Nat} (h0 : ∀ i, i < n → φ i ≠ 0 ∧ ∀ j, j < n → E i j = φ i * Q i j) : ∀ c, c ≤ n →
    ∃ ψ : Nat → Rat, (∀ i, i < n → ψ i ≠ 0 ∧ ∀ j, j < n → gau E n c i j = ψ i * gau Q n c i j) ∧ prodF ψ n = prodF φ n ∧ (Full E n c → gP E n c = prodF ψ c * gP Q n c) ∧ gS E n c = gS Q n c ∧ (Full E n c ↔ Full Q n c)
  | 0, _ => ⟨φ, h0, rfl, fun _ => by simp [gP, prodF], rfl, ⟨fun _ d h => absurd h (by omega), fun _ d h => absurd h (by omega)⟩⟩
  | c + 1, hc => by
    obtain ⟨ψ, h1, h2, h3, h4, h5⟩ := gau_scale h0 c (by omega)
    have hpv : gp E n c = gp Q n c := pivR_congr (by omega) fun i _ hi => by
      obtain ⟨a, b⟩ := h1 i hi
      rw [b c (by omega), Rat.mul_eq_zero]
      exact ⟨fun h => h.resolve_left a, .inr⟩
    have hfull : Full E n (c + 1) ↔ Full Q n (c + 1) := by
      have key : ∀ F : Nat → Nat → Rat, Full F n (c + 1) ↔ Full F n c ∧ gp F n c < n := fun F => ⟨fun h => ⟨fun d hd => h d (by omega), h c (by omega)⟩, fun h d hd => by
        by_cases e : d = c
        · rw [e]; exact h.2
        · exact h.1 d (by omega)⟩
      rw [key, key, h5, hpv]
    by_cases hp : gp Q n c < n
    · have hpE : gp E n c < n := by rw [hpv]; exact hp
      have hb := gp_le (f := Q) (n := n) (c := c) (by omega)
      have hlt : ∀ i, i < n → sw c (gp Q n c) i < n := fun i hi => (sw_in hb.1 hp hi).1
      refine ⟨fun i => ψ (sw c (gp Q n c) i), fun i hi => ⟨(h1 _ (hlt i hi)).1, fun j hj => ?_⟩, by rw [prodF_sw ψ (by omega) hp, h2], fun hF => ?_, ?_, hfull⟩
      · by_cases hic : i ≤ c
        · rw [gau_top hpE hic, gau_top hp hic, hpv]
          exact (h1 _ (hlt i hi)).2 j hj
        · rw [gau_row hpE (by omega), gau_row hp (by omega), hpv, (h1 _ (hlt i hi)).2 j hj, (h1 _ (hlt i hi)).2 c (by omega), (h1 _ hp).2 c (by omega), (h1 _ hp).2 j hj]
          have hz := gp_hit (f := Q) (n := n) (c := c) (by omega) hp
          have hu := (h1 _ hp).1
          have e : (ψ (sw c (gp Q n c) i) * gau Q n c (sw c (gp Q n c) i) c) / (ψ (gp Q n c) * gau Q n c (gp Q n c) c) * ψ (gp Q n c) = ψ (sw c (gp Q n c) i) * (gau Q n c (sw c (gp Q n c) i) c / gau Q n c (gp Q n c) c) := by
            rw [Rat.div_def, Rat.div_def, Rat.inv_mul_rev]
            have e1 := Rat.inv_mul_cancel _ hu
            generalize (ψ (gp Q n c))⁻¹ = v at *
            generalize (gau Q n c (gp Q n c) c)⁻¹ = z at *
            grind
          generalize (ψ (sw c (gp Q n c) i) * gau Q n c (sw c (gp Q n c) i) c) / (ψ (gp Q n c) * gau Q n c (gp Q n c) c) = x at e ⊢
          generalize gau Q n c (sw c (gp Q n c) i) c / gau Q n c (gp Q n c) c = y at e ⊢
          grind
      · have hF' : Full E n c := fun d hd => hF d (by omega)
        rw [gP, gP, prodF, h3 hF', hpv, (h1 _ hp).2 c (by omega)]
        have e1 : sw c (gp Q n c) c = gp Q n c := by unfold sw; rw [if_pos rfl]
        rw [e1, prodF_congr (p := fun i => ψ (sw c (gp Q n c) i)) (q := ψ) (fun j hj => by unfold sw; rw [if_neg (by omega), if_neg (by omega)])]
        grind
      · rw [gS, gS, hpv, h4]
    · have hpE : ¬ gp E n c < n := by rw [hpv]; exact hp
      have e1 : gau E n (c + 1) = gau E n c := by rw [gau]; exact if_neg hpE
      have e2 : gau Q n (c + 1) = gau Q n c := by rw [gau]; exact if_neg hp
      refine ⟨ψ, fun i hi => ?_, h2, fun hF => absurd (hF c (by omega)) hpE, by rw [gS, gS, hpv, h4], hfull⟩
      rw [e1, e2]; exact h1 i hi
/-- The determinant's value. -/
def detV (f : Nat → Nat → Rat) (n : Nat) : Rat := if gS f n n then -(gP f n n) else gP f n n
end Go.Proofs.Ytpaochhaenehmaa
