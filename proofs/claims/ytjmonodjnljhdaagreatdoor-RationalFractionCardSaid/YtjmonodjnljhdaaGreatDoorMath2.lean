/-
  Plain mathematics, second part: division by one digit, decimal output.
-/
import Derived.Test.YtjmonodjnljhdaaGreatDoorMath
namespace Nd

/-- Division by the digit d, the most significant digit first: t digits are still to come, r is the rest. -/
structure ShI (d : Nat) (X : List Nat) (t r : Nat) (L : List Nat) : Prop where
  len : L.length = X.length
  digs : dig 4294967296 L
  rest : r < d
  value : lv 4294967296 (X.drop t) = d * lv 4294967296 (L.drop t) + r
theorem ShI.start {d : Nat} {X L : List Nat} (hd : 0 < d) (hl : L.length = X.length) (dL : dig 4294967296 L) : ShI d X X.length 0 L :=
  ⟨hl, dL, hd, by rw [List.drop_eq_nil_of_le (Nat.le_refl _), List.drop_eq_nil_of_le (by omega)]; simp⟩
theorem ShI.step {d : Nat} {X L : List Nat} {i r x : Nat} (h : ShI d X (i + 1) r L) (hi : i < X.length) (hx : X.getD i 0 = x) (dX : dig 4294967296 X) :
    (r * 4294967296 + x) / d < 4294967296 ∧ ShI d X i ((r * 4294967296 + x) % d) (L.set i ((r * 4294967296 + x) / d)) := by
  have hd : 0 < d := by have := h.rest; omega
  have hx2 : x < 4294967296 := by rw [← hx]; exact dig_getD (by omega) dX i
  have h1 : (r * 4294967296 + x) / d < 4294967296 := by
    rw [Nat.div_lt_iff_lt_mul hd]
    have h2 : (r + 1) * 4294967296 ≤ d * 4294967296 := Nat.mul_le_mul_right _ h.rest
    rw [Nat.mul_comm 4294967296 d]
    omega
  refine ⟨h1, ⟨by simpa using h.len, dig_set h.digs _ _ h1, Nat.mod_lt _ hd, ?_⟩⟩
  rw [lv_drop _ _ _ hi, hx, h.value, drop_set (by rw [h.len]; exact hi), lv_cons]
  have h2 := Nat.div_add_mod (r * 4294967296 + x) d
  generalize (r * 4294967296 + x) / d = q at *
  generalize (r * 4294967296 + x) % d = s at *
  generalize lv 4294967296 (L.drop (i + 1)) = z at *
  grind
theorem ShI.done {d : Nat} {X L : List Nat} {r : Nat} (h : ShI d X 0 r L) : lv 4294967296 L = lv 4294967296 X / d ∧ r = lv 4294967296 X % d := by
  have h1 := h.value
  simp only [List.drop_zero] at h1
  have hr := h.rest
  rw [h1]
  constructor
  · rw [Nat.mul_add_div (by omega), Nat.div_eq_of_lt hr, Nat.add_zero]
  · rw [Nat.mul_add_mod, Nat.mod_eq_of_lt hr]

/-- The characters of decimal digits. -/
def chr (E : List Nat) : List Nat := E.map (· + 48)
theorem chr_append (E F : List Nat) : chr (E ++ F) = chr E ++ chr F := by simp [chr]
theorem ofNums_chr_all : ∀ (E : List Nat), dig 10 E → (ofNums (chr E)).all isD = true
  | [], _ => rfl
  | x :: E, h => by
    have hx := dig_head h
    have ih := ofNums_chr_all E (dig_tail h)
    have e : (UInt8.ofNat (x + 48)).toNat = x + 48 := by rw [UInt8.toNat_ofNat_of_lt' (by simp [UInt8.size]; omega)]
    simp only [chr, ofNums, List.map_cons, List.all_cons, Bool.and_eq_true] at ih ⊢
    refine ⟨?_, ih⟩
    simp only [isD, Bool.and_eq_true, decide_eq_true_eq]
    omega
theorem dgs_chr : ∀ (E : List Nat), dig 10 E → dgs (ofNums (chr E)) = E
  | [], _ => rfl
  | x :: E, h => by
    have hx := dig_head h
    have ih := dgs_chr E (dig_tail h)
    have e : (UInt8.ofNat (x + 48)).toNat = x + 48 := by rw [UInt8.toNat_ofNat_of_lt' (by simp [UInt8.size]; omega)]
    simp only [chr, ofNums, dgs, List.map_cons] at ih ⊢
    rw [ih, e]; simp
theorem dv_chr (E : List Nat) (h : dig 10 E) : dv (ofNums (chr E)) = lv 10 E.reverse := by rw [dv, dgs_chr E h]
theorem dig_reverse {B : Nat} {l : List Nat} (h : dig B l) : dig B l.reverse := fun x hx => h x (List.mem_reverse.1 hx)

/-- Without leading characters 0. -/
def cut0 (l : List UInt8) : List UInt8 := l.dropWhile (· == 48)
theorem cut0_all : ∀ (l : List UInt8), l.all isD = true → (cut0 l).all isD = true
  | [], _ => rfl
  | c :: l, h => by
    simp only [List.all_cons, Bool.and_eq_true] at h
    unfold cut0
    rw [List.dropWhile_cons]
    split
    · exact cut0_all l h.2
    · simp [h.1]; simpa using h.2
theorem dv_cut0 : ∀ (l : List UInt8), dv (cut0 l) = dv l
  | [] => rfl
  | c :: l => by
    unfold cut0
    rw [List.dropWhile_cons]
    split
    · rename_i h
      have : c = 48 := by simpa using h
      subst this
      rw [dv_cons]
      have := dv_cut0 l
      unfold cut0 at this
      rw [this]; simp
    · rfl
theorem cut0_head (l : List UInt8) : (cut0 l).head? ≠ some 48 := by
  unfold cut0
  induction l with
  | nil => simp
  | cons c l ih =>
    rw [List.dropWhile_cons]
    split
    · exact ih
    · rename_i h; simpa using h
theorem Dec_cut0 (l : List UInt8) (h : l.all isD = true) (hne : cut0 l ≠ []) : Dec (cut0 l) (dv l) := by
  refine ⟨?_, dv_cut0 l⟩
  simp only [canD, Bool.and_eq_true, Bool.not_eq_true', Bool.or_eq_true, decide_eq_true_eq]
  exact ⟨⟨by simpa using hne, cut0_all l h⟩, .inr (cut0_head l)⟩
theorem Dec_zero (l : List UInt8) (hne : cut0 l = []) : Dec [48] (dv l) := by
  refine ⟨rfl, ?_⟩
  rw [← dv_cut0 l, hne]; rfl

/-- Output of decimal digits: E are the digits that are made, x is what is left of the number u. -/
structure Out (u x : Nat) (E : List Nat) : Prop where
  digs : dig 10 E
  value : u = x * 10 ^ E.length + lv 10 E
theorem Out.step {u x : Nat} {E : List Nat} (h : Out u x E) : Out u (x / 10) (E ++ [x % 10]) := by
  refine ⟨dig_append h.digs (dig_cons (Nat.mod_lt _ (by omega)) (dig_nil _)), ?_⟩
  rw [h.value, lv_snoc, List.length_append, List.length_singleton, Nat.pow_succ]
  have h1 := Nat.div_add_mod x 10
  generalize x / 10 = a at *
  generalize x % 10 = b at *
  generalize 10 ^ E.length = p at *
  generalize lv 10 E = z at *
  grind
theorem Out.bound {u x n : Nat} {E : List Nat} (h : Out u x E) (hx : 0 < x) (hn : u < 4294967296 ^ n) : E.length + 1 ≤ 10 * n := by
  have h0 := h.value
  have h1 : 1 * 10 ^ E.length ≤ x * 10 ^ E.length := Nat.mul_le_mul_right _ hx
  have h2 : 4294967296 ^ n ≤ (10 ^ 10) ^ n := Nat.pow_le_pow_left (by decide) n
  rw [← Nat.pow_mul] at h2
  have h3 : 10 ^ E.length < 10 ^ (10 * n) := by omega
  have := (Nat.pow_lt_pow_iff_right (a := 10) (by omega)).1 h3
  omega
/-- The rest of a division by 10^9 is written, k digits are still to come. -/
theorem rest_step {y r k : Nat} (hr : r < 10 ^ (k + 1)) : (y * 10 ^ (k + 1) + r) / 10 = y * 10 ^ k + r / 10 ∧ (y * 10 ^ (k + 1) + r) % 10 = r % 10 ∧ r / 10 < 10 ^ k := by
  rw [Nat.pow_succ, ← Nat.mul_assoc] at *
  refine ⟨by omega, by omega, by omega⟩
theorem drop_fill (n : Nat) (E : List Nat) (z : Nat) : (List.replicate n z ++ E).drop n = E := by
  rw [List.drop_left' (by simp)]

theorem bytesOf_drop (l : List Nat) (i : Nat) (h : i < l.length) :
    (bytesOf (l.drop (i + 1))).reverse ++ [l.getD i 0 / 16777216 % 256, l.getD i 0 / 65536 % 256, l.getD i 0 / 256 % 256, l.getD i 0 % 256] = (bytesOf (l.drop i)).reverse := by
  rw [List.drop_eq_getElem_cons h, getD_lt _ _ h]
  simp [bytesOf]

end Nd
