/-
  The determinant: what the rows hold in each step of Bareiss's method.
-/
import Derived.Test.YtpaochhaenehmaaLM5
namespace Go.Proofs.Ytpaochhaenehmaa
open Nd

theorem gau_zero {f : Nat → Nat → Rat} {n : Nat} : ∀ c, c ≤ n → Full f n c → ∀ i, c ≤ i → i < n → ∀ j, j < c → gau f n c i j = 0
  | 0, _, _, _, _, _, j, h => absurd h (by omega)
  | c + 1, hc, hF, i, hi, hin, j, hj => by
    have hp := hF c (by omega)
    have hb := gp_le (f := f) (n := n) (c := c) (by omega)
    have hz := gp_hit (f := f) (n := n) (c := c) (by omega) hp
    have IH := gau_zero c (by omega) (fun d hd => hF d (by omega))
    have hs := sw_in (i := i) hb.1 hp hin
    rw [gau_row hp (by omega)]
    by_cases e : j = c
    · subst e; rw [div_mul_self hz]; grind
    · rw [IH _ (hs.2 (by omega)) hs.1 j (by omega), IH _ hb.1 hp j (by omega)]; grind
theorem bar_all {f : Nat → Nat → Rat} {n c k j : Nat} (hf : ∀ i, i < n → ∀ j, j < n → IsInt (f i j)) (hc : c ≤ n) (hF : Full f n c) (h4 : c ≤ 4) (hk : c ≤ k) (hkn : k < n) (hjn : j < n) : IsInt (gP f n c * gau f n c k j) := by
  rcases Nat.lt_or_ge j c with h | h
  · rw [gau_zero c hc hF k hk hkn j h]; exact ⟨0, by grind⟩
  · exact bar_int hf hc hF h4 hk hkn h hjn
theorem int_div {A D : Int} {z : Rat} (hz : IsInt z) (hD : D ≠ 0) (h : (A : Rat) = (D : Rat) * z) : D ∣ A ∧ ((A / D : Int) : Rat) = z := by
  obtain ⟨Z, rfl⟩ := hz
  have e : A = D * Z := by
    have h2 : ((A : Int) : Rat) = ((D * Z : Int) : Rat) := by rw [h]; simp
    exact_mod_cast h2
  subst e
  exact ⟨⟨Z, rfl⟩, by rw [Int.mul_ediv_cancel_left _ hD]⟩
theorem Full.succ {f : Nat → Nat → Rat} {n c : Nat} (h : Full f n c) (hp : gp f n c < n) : Full f n (c + 1) := fun d hd => by
  by_cases e : d = c
  · rw [e]; exact hp
  · exact h d (by omega)
/-- What the rows hold after c steps of Bareiss's method: those from c on. -/
def Bar (G F : Nat → Nat → Rat) (n c : Nat) : Prop := ∀ i, c ≤ i → i < n → ∀ j, j < n → F i j = gP G n c * gau G n c i j
theorem Bar.piv {G F : Nat → Nat → Rat} {n c : Nat} (h : Bar G F n c) (hc : c < n) (hF : Full G n c) : pivR F n c c = gp G n c :=
  pivR_congr (by omega) fun i h1 h2 => by
    rw [h i h1 h2 c hc, Rat.mul_eq_zero]
    exact ⟨fun h => h.resolve_left (gP_ne c (by omega) hF), .inr⟩
/-- In step c the rows from l on are still to be done. -/
structure BarM (G F : Nat → Nat → Rat) (n c l : Nat) : Prop where
  top : ∀ j, j < n → F c j = gP G n c * gau G n c (gp G n c) j
  done : ∀ i, c < i → i < l → i < n → ∀ j, j < n → F i j = gP G n (c + 1) * gau G n (c + 1) i j
  rest : ∀ i, l ≤ i → c < i → i < n → ∀ j, j < n → F i j = gP G n c * gau G n c (sw c (gp G n c) i) j
theorem Bar.swap {G F : Nat → Nat → Rat} {n c : Nat} (h : Bar G F n c) (hp : gp G n c < n) (hc : c ≤ gp G n c) : BarM G (swp F c (gp G n c)) n c (c + 1) := by
  refine ⟨fun j hj => ?_, fun i h1 h2 => absurd h2 (by omega), fun i h1 h2 h3 j hj => ?_⟩
  · rw [swp_sw]
    have : sw c (gp G n c) c = gp G n c := by unfold sw; rw [if_pos rfl]
    rw [this]; exact h _ hc hp j hj
  · rw [swp_sw]
    have hs := sw_in (i := i) hc hp h3
    exact h _ (hs.2 (by omega)) hs.1 j hj
theorem BarM.last {G F : Nat → Nat → Rat} {n c : Nat} (h : BarM G F n c n) : Bar G F n (c + 1) := fun i h1 h2 j hj => h.done i (by omega) h2 h2 j hj
theorem BarM.diag {G F : Nat → Nat → Rat} {n c l : Nat} (h : BarM G F n c l) (hc : c < n) : F c c = gP G n (c + 1) := by rw [h.top c hc, gP]
/-- The number that the step computes. -/
theorem BarM.val {G F : Nat → Nat → Rat} {n c l : Nat} (h : BarM G F n c l) (hc : c < n) (hp : gp G n c < n) (hcl : c < l) (hl : l < n) {j : Nat} (hj : j < n) : F c c * F l j - F l c * F c j = gP G n c * (gP G n (c + 1) * gau G n (c + 1) l j) := by
  rw [h.top c hc, h.top j hj, h.rest l (Nat.le_refl _) hcl hl j hj, h.rest l (Nat.le_refl _) hcl hl c hc]
  exact bar_step (by omega) hp hcl j
theorem BarM.set {G F : Nat → Nat → Rat} {n c l : Nat} {p : Nat → Rat} (h : BarM G F n c l) (hcl : c < l) (_ : l < n) (hp : ∀ j, j < n → p j = gP G n (c + 1) * gau G n (c + 1) l j) : BarM G (fun i j => if i = l then p j else F i j) n c (l + 1) := by
  refine ⟨fun j hj => ?_, fun i h1 h2 h3 j hj => ?_, fun i h1 h2 h3 j hj => ?_⟩
  · rw [if_neg (by omega)]; exact h.top j hj
  · by_cases e : i = l
    · rw [if_pos e, e]; exact hp j hj
    · rw [if_neg e]; exact h.done i h1 (by omega) h3 j hj
  · rw [if_neg (by omega)]; exact h.rest i (by omega) h2 h3 j hj
/-- The bound of the numbers after c steps. -/
def KB (k : Nat) : Nat → Nat
  | 0 => k
  | c + 1 => 4 * KB k c + 1
theorem KB_le (k : Nat) {c d : Nat} (h : c ≤ d) : KB k c ≤ KB k d := by
  induction d with
  | zero => have : c = 0 := by omega
            subst this; exact Nat.le_refl _
  | succ d ih =>
    rcases Nat.lt_or_ge c (d + 1) with h1 | h1
    · have := ih (by omega); rw [KB]; omega
    · have : c = d + 1 := by omega
      subst this; exact Nat.le_refl _
instance (f : Nat → Nat → Rat) (n c : Nat) : Decidable (Full f n c) := by unfold Full; exact inferInstance
/-- The determinant's value, 0 if a pivot is missing. -/
def detF (f : Nat → Nat → Rat) (n : Nat) : Rat := if Full f n n then detV f n else 0
end Go.Proofs.Ytpaochhaenehmaa
