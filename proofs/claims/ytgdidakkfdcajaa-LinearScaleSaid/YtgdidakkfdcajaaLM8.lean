/-
  detF is the determinant; rows exchanged, a row multiplied (up to four rows).
-/
import Derived.Test.YtgdidakkfdcajaaLM7
namespace Go.Proofs.Ytgdidakkfdcajaa
open Nd

theorem det_sw21 (f : Nat → Nat → Rat) : det 2 (fun i j => f (sw 0 1 i) j) = -det 2 f := by
  simp [det, sumF, sw]
  generalize f 0 0 = a00
  generalize f 0 1 = a01
  generalize f 1 0 = a10
  generalize f 1 1 = a11
  grind
theorem det_mul20 (f : Nat → Nat → Rat) (q : Rat) : det 2 (fun i j => if i = 0 then q * f i j else f i j) = q * det 2 f := by
  simp [det, sumF]
  generalize f 0 0 = a00
  generalize f 0 1 = a01
  generalize f 1 0 = a10
  generalize f 1 1 = a11
  grind
theorem det_mul21 (f : Nat → Nat → Rat) (q : Rat) : det 2 (fun i j => if i = 1 then q * f i j else f i j) = q * det 2 f := by
  simp [det, sumF]
  generalize f 0 0 = a00
  generalize f 0 1 = a01
  generalize f 1 0 = a10
  generalize f 1 1 = a11
  grind
theorem det_sw31 (f : Nat → Nat → Rat) : det 3 (fun i j => f (sw 0 1 i) j) = -det 3 f := by
  simp [det, sumF, sw]
  generalize f 0 0 = a00
  generalize f 0 1 = a01
  generalize f 0 2 = a02
  generalize f 1 0 = a10
  generalize f 1 1 = a11
  generalize f 1 2 = a12
  generalize f 2 0 = a20
  generalize f 2 1 = a21
  generalize f 2 2 = a22
  grind
theorem det_sw32 (f : Nat → Nat → Rat) : det 3 (fun i j => f (sw 0 2 i) j) = -det 3 f := by
  simp [det, sumF, sw]
  generalize f 0 0 = a00
  generalize f 0 1 = a01
  generalize f 0 2 = a02
  generalize f 1 0 = a10
  generalize f 1 1 = a11
  generalize f 1 2 = a12
  generalize f 2 0 = a20
  generalize f 2 1 = a21
  generalize f 2 2 = a22
  grind
theorem det_mul30 (f : Nat → Nat → Rat) (q : Rat) : det 3 (fun i j => if i = 0 then q * f i j else f i j) = q * det 3 f := by
  simp [det, sumF]
  generalize f 0 0 = a00
  generalize f 0 1 = a01
  generalize f 0 2 = a02
  generalize f 1 0 = a10
  generalize f 1 1 = a11
  generalize f 1 2 = a12
  generalize f 2 0 = a20
  generalize f 2 1 = a21
  generalize f 2 2 = a22
  grind
theorem det_mul31 (f : Nat → Nat → Rat) (q : Rat) : det 3 (fun i j => if i = 1 then q * f i j else f i j) = q * det 3 f := by
  simp [det, sumF]
  generalize f 0 0 = a00
  generalize f 0 1 = a01
  generalize f 0 2 = a02
  generalize f 1 0 = a10
  generalize f 1 1 = a11
  generalize f 1 2 = a12
  generalize f 2 0 = a20
  generalize f 2 1 = a21
  generalize f 2 2 = a22
  grind
theorem det_mul32 (f : Nat → Nat → Rat) (q : Rat) : det 3 (fun i j => if i = 2 then q * f i j else f i j) = q * det 3 f := by
  simp [det, sumF]
  generalize f 0 0 = a00
  generalize f 0 1 = a01
  generalize f 0 2 = a02
  generalize f 1 0 = a10
  generalize f 1 1 = a11
  generalize f 1 2 = a12
  generalize f 2 0 = a20
  generalize f 2 1 = a21
  generalize f 2 2 = a22
  grind
theorem det_sw41 (f : Nat → Nat → Rat) : det 4 (fun i j => f (sw 0 1 i) j) = -det 4 f := by
  simp [det, sumF, sw]
  generalize f 0 0 = a00
  generalize f 0 1 = a01
  generalize f 0 2 = a02
  generalize f 0 3 = a03
  generalize f 1 0 = a10
  generalize f 1 1 = a11
  generalize f 1 2 = a12
  generalize f 1 3 = a13
  generalize f 2 0 = a20
  generalize f 2 1 = a21
  generalize f 2 2 = a22
  generalize f 2 3 = a23
  generalize f 3 0 = a30
  generalize f 3 1 = a31
  generalize f 3 2 = a32
  generalize f 3 3 = a33
  grind
theorem det_sw42 (f : Nat → Nat → Rat) : det 4 (fun i j => f (sw 0 2 i) j) = -det 4 f := by
  simp [det, sumF, sw]
  generalize f 0 0 = a00
  generalize f 0 1 = a01
  generalize f 0 2 = a02
  generalize f 0 3 = a03
  generalize f 1 0 = a10
  generalize f 1 1 = a11
  generalize f 1 2 = a12
  generalize f 1 3 = a13
  generalize f 2 0 = a20
  generalize f 2 1 = a21
  generalize f 2 2 = a22
  generalize f 2 3 = a23
  generalize f 3 0 = a30
  generalize f 3 1 = a31
  generalize f 3 2 = a32
  generalize f 3 3 = a33
  grind
theorem det_sw43 (f : Nat → Nat → Rat) : det 4 (fun i j => f (sw 0 3 i) j) = -det 4 f := by
  simp [det, sumF, sw]
  generalize f 0 0 = a00
  generalize f 0 1 = a01
  generalize f 0 2 = a02
  generalize f 0 3 = a03
  generalize f 1 0 = a10
  generalize f 1 1 = a11
  generalize f 1 2 = a12
  generalize f 1 3 = a13
  generalize f 2 0 = a20
  generalize f 2 1 = a21
  generalize f 2 2 = a22
  generalize f 2 3 = a23
  generalize f 3 0 = a30
  generalize f 3 1 = a31
  generalize f 3 2 = a32
  generalize f 3 3 = a33
  grind
theorem det_mul40 (f : Nat → Nat → Rat) (q : Rat) : det 4 (fun i j => if i = 0 then q * f i j else f i j) = q * det 4 f := by
  simp [det, sumF]
  generalize f 0 0 = a00
  generalize f 0 1 = a01
  generalize f 0 2 = a02
  generalize f 0 3 = a03
  generalize f 1 0 = a10
  generalize f 1 1 = a11
  generalize f 1 2 = a12
  generalize f 1 3 = a13
  generalize f 2 0 = a20
  generalize f 2 1 = a21
  generalize f 2 2 = a22
  generalize f 2 3 = a23
  generalize f 3 0 = a30
  generalize f 3 1 = a31
  generalize f 3 2 = a32
  generalize f 3 3 = a33
  grind
theorem det_mul41 (f : Nat → Nat → Rat) (q : Rat) : det 4 (fun i j => if i = 1 then q * f i j else f i j) = q * det 4 f := by
  simp [det, sumF]
  generalize f 0 0 = a00
  generalize f 0 1 = a01
  generalize f 0 2 = a02
  generalize f 0 3 = a03
  generalize f 1 0 = a10
  generalize f 1 1 = a11
  generalize f 1 2 = a12
  generalize f 1 3 = a13
  generalize f 2 0 = a20
  generalize f 2 1 = a21
  generalize f 2 2 = a22
  generalize f 2 3 = a23
  generalize f 3 0 = a30
  generalize f 3 1 = a31
  generalize f 3 2 = a32
  generalize f 3 3 = a33
  grind
theorem det_mul42 (f : Nat → Nat → Rat) (q : Rat) : det 4 (fun i j => if i = 2 then q * f i j else f i j) = q * det 4 f := by
  simp [det, sumF]
  generalize f 0 0 = a00
  generalize f 0 1 = a01
  generalize f 0 2 = a02
  generalize f 0 3 = a03
  generalize f 1 0 = a10
  generalize f 1 1 = a11
  generalize f 1 2 = a12
  generalize f 1 3 = a13
  generalize f 2 0 = a20
  generalize f 2 1 = a21
  generalize f 2 2 = a22
  generalize f 2 3 = a23
  generalize f 3 0 = a30
  generalize f 3 1 = a31
  generalize f 3 2 = a32
  generalize f 3 3 = a33
  grind
theorem det_mul43 (f : Nat → Nat → Rat) (q : Rat) : det 4 (fun i j => if i = 3 then q * f i j else f i j) = q * det 4 f := by
  simp [det, sumF]
  generalize f 0 0 = a00
  generalize f 0 1 = a01
  generalize f 0 2 = a02
  generalize f 0 3 = a03
  generalize f 1 0 = a10
  generalize f 1 1 = a11
  generalize f 1 2 = a12
  generalize f 1 3 = a13
  generalize f 2 0 = a20
  generalize f 2 1 = a21
  generalize f 2 2 = a22
  generalize f 2 3 = a23
  generalize f 3 0 = a30
  generalize f 3 1 = a31
  generalize f 3 2 = a32
  generalize f 3 3 = a33
  grind
theorem det_sw {s p : Nat} (h4 : s ≤ 4) (h0 : 0 < p) (hp : p < s) (f : Nat → Nat → Rat) : det s (fun i j => f (sw 0 p i) j) = -det s f := by
  match s, p, h4, h0, hp with
  | 0, _, _, _, h => exact absurd h (by omega)
  | 1, _, _, h, h' => exact absurd h' (by omega)
  | 2, 1, _, _, _ => exact det_sw21 f
  | 3, 1, _, _, _ => exact det_sw31 f
  | 3, 2, _, _, _ => exact det_sw32 f
  | 4, 1, _, _, _ => exact det_sw41 f
  | 4, 2, _, _, _ => exact det_sw42 f
  | 4, 3, _, _, _ => exact det_sw43 f
theorem det_mul {s p : Nat} (h2 : 2 ≤ s) (h4 : s ≤ 4) (hp : p < s) (f : Nat → Nat → Rat) (q : Rat) : det s (fun i j => if i = p then q * f i j else f i j) = q * det s f := by
  match s, p, h2, h4, hp with
  | 2, 0, _, _, _ => exact det_mul20 f q
  | 2, 1, _, _, _ => exact det_mul21 f q
  | 3, 0, _, _, _ => exact det_mul30 f q
  | 3, 1, _, _, _ => exact det_mul31 f q
  | 3, 2, _, _, _ => exact det_mul32 f q
  | 4, 0, _, _, _ => exact det_mul40 f q
  | 4, 1, _, _, _ => exact det_mul41 f q
  | 4, 2, _, _, _ => exact det_mul42 f q
  | 4, 3, _, _, _ => exact det_mul43 f q
theorem det_nil : ∀ {s : Nat} {f : Nat → Nat → Rat}, 0 < s → (∀ i, i < s → f i 0 = 0) → det s f = 0
  | 0, _, h, _ => absurd h (by omega)
  | s + 1, f, _, h => by
    show sumF _ (s + 1) = 0
    have : ∀ m, m ≤ s + 1 → sumF (fun i => (if i % 2 = 0 then 1 else -1) * f i 0 * det s (fun a b => f (if a < i then a else a + 1) (b + 1))) m = 0 := by
      intro m
      induction m with
      | zero => intro _; rfl
      | succ m ih => intro hm; rw [sumF, ih (by omega), h m (by omega)]; grind
    exact this _ (Nat.le_refl _)
/-- The part of the matrix that is left after c steps. -/
def rst (f : Nat → Nat → Rat) (n c : Nat) : Nat → Nat → Rat := fun a b => gau f n c (c + a) (c + b)
def sgn (b : Bool) : Rat := if b then -1 else 1
theorem det_one (f : Nat → Nat → Rat) : det 1 f = f 0 0 := by simp [det, sumF]; grind
theorem gau_det {f : Nat → Nat → Rat} {n : Nat} (h4 : n ≤ 4) : ∀ c, c ≤ n → Full f n c → det n f = sgn (gS f n c) * gP f n c * det (n - c) (rst f n c)
  | 0, _, _ => by
    have : rst f n 0 = f := by funext a b; unfold rst; rw [gau, Nat.zero_add, Nat.zero_add]
    rw [this, gP, gS, Nat.sub_zero]; unfold sgn; simp
  | c + 1, hc, hF => by
    have IH := gau_det h4 c (by omega) (fun d hd => hF d (by omega))
    have hp := hF c (by omega)
    have hb := gp_le (f := f) (n := n) (c := c) (by omega)
    have hz := gp_hit (f := f) (n := n) (c := c) (by omega) hp
    obtain ⟨s, hs⟩ : ∃ s, n - c = s + 1 := ⟨n - c - 1, by omega⟩
    have hs2 : n - (c + 1) = s := by omega
    rw [hs] at IH
    rw [hs2]
    -- the rows exchanged
    have hsw : det (s + 1) (fun i j => rst f n c (sw 0 (gp f n c - c) i) j) = (if gp f n c = c then 1 else -1) * det (s + 1) (rst f n c) := by
      by_cases e : gp f n c = c
      · rw [if_pos e, e, Nat.sub_self]
        have : (fun i j => rst f n c (sw 0 0 i) j) = rst f n c := by
          funext i j
          unfold sw
          by_cases h : i = 0
          · rw [if_pos h, h]
          · rw [if_neg h, if_neg h]
        rw [this]; grind
      · rw [if_neg e, det_sw (by omega) (by omega) (by omega)]; grind
    have hg : ∀ a b, rst f n c (sw 0 (gp f n c - c) a) b = gau f n c (sw c (gp f n c) (c + a)) (c + b) := fun a b => by
      unfold rst sw
      by_cases h : a = 0
      · rw [if_pos h, if_pos (by omega), show c + (gp f n c - c) = gp f n c by omega]
      · rw [if_neg h, if_neg (show ¬ c + a = c by omega)]
        by_cases h2 : c + a = gp f n c
        · rw [if_pos (show a = gp f n c - c by omega), if_pos h2, Nat.add_zero]
        · rw [if_neg (show ¬ a = gp f n c - c by omega), if_neg h2]
    have h0 : sw c (gp f n c) (c + 0) = gp f n c := by unfold sw; rw [if_pos (by omega)]
    have hch : det (s + 1) (fun i j => rst f n c (sw 0 (gp f n c - c) i) j) = gau f n c (gp f n c) c * det s (rst f n (c + 1)) := by
      have e3 : (fun i j => rst f n c (sw 0 (gp f n c - c) i) j) = fun a b => gau f n c (sw c (gp f n c) (c + a)) (c + b) := by funext a b; exact hg a b
      rw [e3]
      by_cases hs0 : s = 0
      · subst hs0
        rw [det_one, h0, Nat.add_zero]
        show _ = _ * 1
        grind
      · rw [chio (s := s) (by omega) (by omega) _ (fun i => gau f n c (sw c (gp f n c) (c + (i + 1))) c / gau f n c (gp f n c) c) (fun i => by
          show gau f n c (sw c (gp f n c) (c + (i + 1))) (c + 0) = _ * gau f n c (sw c (gp f n c) (c + 0)) (c + 0)
          rw [h0, Nat.add_zero]; exact (div_mul_self hz).symm)]
        show gau f n c (sw c (gp f n c) (c + 0)) (c + 0) * _ = _
        rw [h0, Nat.add_zero]
        congr 1
        refine det_congr s fun a _ b _ => ?_
        show gau f n c (sw c (gp f n c) (c + (a + 1))) (c + (b + 1)) - _ * gau f n c (gp f n c) (c + (b + 1)) = gau f n (c + 1) (c + 1 + a) (c + 1 + b)
        rw [gau_row hp (by omega), show c + 1 + a = c + (a + 1) by omega, show c + 1 + b = c + (b + 1) by omega]
    rw [IH, gP, gS]
    have e4 : det (s + 1) (rst f n c) = (if gp f n c = c then 1 else -1) * (gau f n c (gp f n c) c * det s (rst f n (c + 1))) := by
      rw [← hch, hsw]
      by_cases e : gp f n c = c
      · rw [if_pos e]; grind
      · rw [if_neg e]; grind
    rw [e4]
    by_cases e : gp f n c = c
    · rw [if_pos e, if_pos e]; grind
    · rw [if_neg e, if_neg e]
      cases gS f n c <;> simp [sgn] <;> grind
theorem full_or (f : Nat → Nat → Rat) (n : Nat) : ∀ c, c ≤ n → Full f n c ∨ ∃ d, d < c ∧ Full f n d ∧ ¬ gp f n d < n
  | 0, _ => .inl fun d h => absurd h (by omega)
  | c + 1, hc => by
    rcases full_or f n c (by omega) with h | ⟨d, h1, h2, h3⟩
    · by_cases e : gp f n c < n
      · left
        intro d hd
        by_cases e2 : d = c
        · rw [e2]; exact e
        · exact h d (by omega)
      · exact .inr ⟨c, by omega, h, e⟩
    · exact .inr ⟨d, by omega, h2, h3⟩
/-- The determinant by elimination is the determinant. -/
theorem detF_det {f : Nat → Nat → Rat} {n : Nat} (h4 : n ≤ 4) : detF f n = det n f := by
  unfold detF
  by_cases hF : Full f n n
  · rw [if_pos hF, gau_det h4 n (Nat.le_refl _) hF, Nat.sub_self]
    unfold detV
    show _ = _ * _ * 1
    cases gS f n n <;> simp [sgn] <;> grind
  · rw [if_neg hF]
    rcases full_or f n n (Nat.le_refl _) with h | ⟨d, h1, h2, h3⟩
    · exact absurd h hF
    · rw [gau_det h4 d (by omega) h2, det_nil (s := n - d) (by omega) (fun i hi => by
        show gau f n d (d + i) (d + 0) = 0
        rw [Nat.add_zero]
        exact pivR_zero (n := n) (r := d) (by omega) (show d + i < gp f n d by omega))]
      grind
theorem detF_swap {f g : Nat → Nat → Rat} {n : Nat} (h2 : 2 ≤ n) (h4 : n ≤ 4) (h : ∀ i, i < n → ∀ j, j < n → g i j = f (sw 0 1 i) j) : detF g n = -detF f n := by
  rw [detF_det h4, detF_det h4, det_congr n h, det_sw h4 (by omega) (by omega)]
theorem detF_mul {f g : Nat → Nat → Rat} {n p : Nat} {q : Rat} (h2 : 2 ≤ n) (h4 : n ≤ 4) (hp : p < n) (h : ∀ i, i < n → ∀ j, j < n → g i j = if i = p then q * f i j else f i j) : detF g n = q * detF f n := by
  rw [detF_det h4, detF_det h4, det_congr n h, det_mul h2 h4 hp]
end Go.Proofs.Ytgdidakkfdcajaa
