/-
  Plain mathematics, third part: long division's last digits, rational numbers in lowest terms, decimal digits.
-/
import Derived.Test.YtjmonodjnljhdaaDoorMath2
namespace Nd
theorem SubM.last {U V L : List Nat} {o q m c : Nat} (h : SubM U V o q m c L) (hm : V.length = m) (ho : o + m < U.length) (d b : Nat) (hd : d < 4294967296) (hb : d + c = U.getD (o + m) 0 + 4294967296 * b) :
    (L.set (o + m) d).length = U.length ∧ dig 4294967296 (L.set (o + m) d) ∧ (∀ j, (j < o ∨ o + (m + 1) ≤ j) → (L.set (o + m) d).getD j 0 = U.getD j 0) ∧
      win 4294967296 (L.set (o + m) d) o (m + 1) + q * lv 4294967296 V = win 4294967296 U o (m + 1) + 4294967296 ^ (m + 1) * b := by
  have h1 := h.value
  rw [List.take_of_length_le (by omega)] at h1
  refine ⟨by simpa using h.len, dig_set h.digs _ _ hd, fun j hj => ?_, ?_⟩
  · rw [getD_set_ne (by omega)]
    exact h.other j (by omega)
  · have h2 : 4294967296 ^ m * (d + c) = 4294967296 ^ m * (U.getD (o + m) 0 + 4294967296 * b) := by rw [hb]
    rw [win, win, win_set_out _ _ _ _ _ _ (by omega), getD_set_eq (by rw [h.len]; exact ho), Nat.pow_succ, Nat.mul_assoc]
    simp only [Nat.mul_add] at h2
    omega
theorem AddM.last {U V L : List Nat} {o m c : Nat} (h : AddM U V o m c L) (hm : V.length = m) (ho : o + m < U.length) (d b : Nat) (hd : d < 4294967296) (hb : c + U.getD (o + m) 0 = d + 4294967296 * b) :
    (L.set (o + m) d).length = U.length ∧ dig 4294967296 (L.set (o + m) d) ∧ (∀ j, (j < o ∨ o + (m + 1) ≤ j) → (L.set (o + m) d).getD j 0 = U.getD j 0) ∧
      win 4294967296 (L.set (o + m) d) o (m + 1) + 4294967296 ^ (m + 1) * b = win 4294967296 U o (m + 1) + lv 4294967296 V := by
  have h1 := h.value
  rw [List.take_of_length_le (by omega)] at h1
  refine ⟨by simpa using h.len, dig_set h.digs _ _ hd, fun j hj => ?_, ?_⟩
  · rw [getD_set_ne (by omega)]
    exact h.other j (by omega)
  · have h2 : 4294967296 ^ m * (c + U.getD (o + m) 0) = 4294967296 ^ m * (d + 4294967296 * b) := by rw [hb]
    rw [win, win, win_set_out _ _ _ _ _ _ (by omega), getD_set_eq (by rw [h.len]; exact ho), Nat.pow_succ, Nat.mul_assoc]
    simp only [Nat.mul_add] at h2
    omega
/-- The digit fits: nothing is borrowed. -/
theorem digit_fits {W V q g X : Nat} (q2 : q ≤ g) (hv : 0 < V) (h : X + g * V = W) (hq : q = W / V) : g = q ∧ X = W % V := by
  have h1 : g ≤ W / V := (Nat.le_div_iff_mul_le hv).2 (by omega)
  have h2 : g = q := by omega
  refine ⟨h2, ?_⟩
  have h3 := Nat.div_add_mod W V
  rw [← hq, ← h2, Nat.mul_comm] at h3
  omega
/-- The digit is too great by one: what was borrowed comes back. -/
theorem digit_over {W V q g X P : Nat} (q2 : q ≤ g) (q3 : g ≤ q + 1) (hX : X < P) (h : X + g * V = W + P) (hq : q = W / V) : g = q + 1 ∧ X + V = P + W % V := by
  have h3 := Nat.div_add_mod W V
  rw [← hq, Nat.mul_comm] at h3
  by_cases h4 : g = q
  · rw [h4] at h; omega
  · have h5 : g = q + 1 := by omega
    refine ⟨h5, ?_⟩
    rw [h5, Nat.add_mul, Nat.one_mul] at h
    omega
theorem digit_back {W V X Y P b : Nat} (hVP : V ≤ P) (hv : 0 < V) (hY : Y < P) (h1 : X + V = P + W % V) (h2 : Y + P * b = X + V) : Y = W % V := by
  have h3 := Nat.mod_lt W hv
  have h4 : b = 1 := by
    rcases Nat.lt_trichotomy b 1 with h | h | h
    · rw [show b = 0 by omega] at h2; simp at h2; omega
    · exact h
    · have : P * 2 ≤ P * b := Nat.mul_le_mul_left _ h
      omega
  subst h4
  omega

theorem shr_digit {B p c a b : Nat} (hpc : p * c = B) (hp : 0 < p) (ha : a < B) : (b * B + a) / p % B * p + a % p = a + B * (b % p) := by
  have hc : 0 < c := by
    apply Classical.byContradiction
    intro h
    rw [show c = 0 by omega] at hpc; simp at hpc; omega
  have h1 : (b * B + a) / p = b * c + a / p := by
    rw [← hpc, Nat.mul_left_comm, Nat.mul_add_div hp]
  have h2 : a / p < c := (Nat.div_lt_iff_lt_mul hp).2 (by rw [Nat.mul_comm]; omega)
  have h3 : b * c = b / p * B + b % p * c := by
    conv => lhs; rw [← Nat.div_add_mod b p, Nat.add_mul]
    rw [← hpc]; congr 1
    rw [Nat.mul_comm p, Nat.mul_assoc]
  have h4 : b % p * c + a / p < B := by
    have h5 : b % p * c ≤ (p - 1) * c := Nat.mul_le_mul_right _ (by have := Nat.mod_lt b hp; omega)
    have h6 : (p - 1) * c + c = B := by rw [← Nat.succ_mul, ← hpc]; congr 1; omega
    omega
  have h7 : (b * c + a / p) % B = b % p * c + a / p := by
    rw [h3, Nat.add_assoc, Nat.mul_comm (b / p), Nat.mul_add_mod, Nat.mod_eq_of_lt h4]
  rw [h1, h7, Nat.add_mul]
  have h8 := Nat.div_add_mod a p
  have h9 : b % p * c * p = B * (b % p) := by rw [← hpc, Nat.mul_assoc, Nat.mul_comm c, Nat.mul_comm]
  rw [Nat.mul_comm (a / p)]
  omega
/-- Digit by digit, a number divided by a power of two below the base. -/
structure ShrI (L : List Nat) (p n i : Nat) (R : List Nat) : Prop where
  len : R.length = n
  digs : dig 4294967296 R
  value : win 4294967296 R 0 i * p + L.getD 0 0 % p = win 4294967296 L 0 i + 4294967296 ^ i * (L.getD i 0 % p)
theorem ShrI.start (L : List Nat) (p n : Nat) : ShrI L p n 0 (List.replicate n 0) := ⟨by simp, dig_replicate (by omega) _, by simp [win]⟩
theorem ShrI.step {L R : List Nat} {p c n i a b : Nat} (h : ShrI L p n i R) (hpc : p * c = 4294967296) (hp : 0 < p) (hi : i < n) (ha : L.getD i 0 = a) (hb : L.getD (i + 1) 0 = b) (hal : a < 4294967296) :
    ShrI L p n (i + 1) (R.set i ((b * 4294967296 + a) / p % 4294967296)) := by
  refine ⟨by simpa using h.len, dig_set h.digs _ _ (Nat.mod_lt _ (by omega)), ?_⟩
  have h1 := h.value
  have h2 := shr_digit (b := b) hpc hp hal
  rw [win, win, win_set_out _ _ _ _ _ _ (by omega), Nat.zero_add, getD_set_eq (by rw [h.len]; exact hi), ha, hb, Nat.pow_succ]
  rw [ha] at h1
  generalize (b * 4294967296 + a) / p % 4294967296 = r at *
  generalize 4294967296 ^ i = P at *
  have h3 : P * (r * p + a % p) = P * (a + 4294967296 * (b % p)) := by rw [h2]
  rw [Nat.mul_add, Nat.mul_add, ← Nat.mul_assoc, ← Nat.mul_assoc] at h3
  rw [Nat.add_mul]
  omega
theorem ShrI.done {L R : List Nat} {p n r : Nat} (h : ShrI L p n n R) (hp : 0 < p) (hz : L.getD n 0 = 0) (hL : win 4294967296 L 0 n = r * p) : lv 4294967296 R = r := by
  have h1 := h.value
  rw [hz, hL] at h1
  simp only [Nat.zero_mod, Nat.mul_zero, Nat.add_zero] at h1
  rw [win_take, List.take_of_length_le (by rw [h.len]; exact Nat.le_refl _)] at h1
  have h2 := Nat.mod_lt (L.getD 0 0) hp
  generalize lv 4294967296 R = z at *
  generalize L.getD 0 0 % p = y at *
  rcases Nat.lt_trichotomy z r with h3 | h3 | h3
  · have : (z + 1) * p ≤ r * p := Nat.mul_le_mul_right _ h3
    rw [Nat.add_mul, Nat.one_mul] at this
    omega
  · exact h3
  · have : (r + 1) * p ≤ z * p := Nat.mul_le_mul_right _ h3
    rw [Nat.add_mul, Nat.one_mul] at this
    omega
end Nd
namespace Nd

/-! ### rational numbers: the lowest terms -/
/-- The number n / d, or its negative. -/
def sq (neg : Bool) (n d : Nat) : Rat := mkRat (if neg then -(n : Int) else (n : Int)) d

theorem sq_num_den {neg : Bool} {n d : Nat} (hd : d ≠ 0) (hg : Nat.gcd n d = 1) :
    (sq neg n d).num = (if neg then -(n : Int) else (n : Int)) ∧ (sq neg n d).den = d := by
  unfold sq
  have h1 : Nat.gcd d (if neg then -(n : Int) else (n : Int)).natAbs = 1 := by
    cases neg <;> simp [Nat.gcd_comm d n, hg]
  rw [Rat.num_mkRat, Rat.den_mkRat, h1, if_neg hd, if_neg hd]
  simp

theorem sq_mul {neg : Bool} {n d k : Nat} (hk : k ≠ 0) : sq neg (k * n) (k * d) = sq neg n d := by
  unfold sq
  rw [← Rat.mkRat_mul_left (n := if neg then -(n : Int) else (n : Int)) (d := d) hk]
  cases neg <;> simp [Int.mul_neg]

theorem sq_lowest {neg : Bool} {n d : Nat} (hd : d ≠ 0) : sq neg (n / Nat.gcd n d) (d / Nat.gcd n d) = sq neg n d := by
  have h0 : Nat.gcd n d ≠ 0 := Nat.gcd_ne_zero_right hd
  have h1 : Nat.gcd n d * (n / Nat.gcd n d) = n := Nat.mul_div_cancel' (Nat.gcd_dvd_left n d)
  have h2 : Nat.gcd n d * (d / Nat.gcd n d) = d := Nat.mul_div_cancel' (Nat.gcd_dvd_right n d)
  have h3 := sq_mul (neg := neg) (n := n / Nat.gcd n d) (d := d / Nat.gcd n d) h0
  rw [h1, h2] at h3
  exact h3.symm

theorem lowest_gcd {n d : Nat} (hd : d ≠ 0) : Nat.gcd (n / Nat.gcd n d) (d / Nat.gcd n d) = 1 :=
  Nat.gcd_div_gcd_div_gcd_of_pos_right (Nat.pos_of_ne_zero hd)
theorem lowest_den {n d : Nat} (hd : d ≠ 0) : d / Nat.gcd n d ≠ 0 := by
  have h0 : 0 < Nat.gcd n d := Nat.pos_of_ne_zero (Nat.gcd_ne_zero_right hd)
  have h1 := Nat.div_pos (Nat.le_of_dvd (Nat.pos_of_ne_zero hd) (Nat.gcd_dvd_right n d)) h0
  omega

theorem sq_zero (neg : Bool) (d : Nat) : sq neg 0 d = 0 := by unfold sq; cases neg <;> simp
theorem sq_self (q : Rat) : sq (decide (q.num < 0)) q.num.natAbs q.den = q := by
  unfold sq
  have : (if decide (q.num < 0) = true then -(q.num.natAbs : Int) else (q.num.natAbs : Int)) = q.num := by
    by_cases h : q.num < 0 <;> simp [h] <;> omega
  rw [this]; exact Rat.mkRat_self q

theorem sq_eq_iff {a b : Bool} {n m d e : Nat} (hd : d ≠ 0) (he : e ≠ 0) : sq a n d = sq b m e ↔ (if a then -(n : Int) else (n : Int)) * e = (if b then -(m : Int) else (m : Int)) * d := by
  unfold sq; exact Rat.mkRat_eq_iff hd he

theorem sq_neg (a : Bool) (n d : Nat) : - sq a n d = sq (!a) n d := by
  unfold sq; rw [Rat.neg_mkRat]; cases a <;> simp

theorem sgn_mul (a b : Bool) (n m : Nat) : (if a then -(n : Int) else (n : Int)) * (if b then -(m : Int) else (m : Int)) = if a != b then -((n * m : Nat) : Int) else ((n * m : Nat) : Int) := by
  cases a <;> cases b <;> simp [Int.neg_mul, Int.mul_neg]
theorem sq_prod (a b : Bool) (n m d e : Nat) : sq a n d * sq b m e = sq (a != b) (n * m) (d * e) := by
  unfold sq; rw [Rat.mkRat_mul_mkRat, sgn_mul]

theorem sgn_add_same (a : Bool) (x y : Nat) : (if a then -(x : Int) else (x : Int)) + (if a then -(y : Int) else (y : Int)) = if a then -((x + y : Nat) : Int) else ((x + y : Nat) : Int) := by
  cases a <;> simp <;> omega
theorem sgn_scale (a : Bool) (x y : Nat) : (if a then -(x : Int) else (x : Int)) * (y : Int) = if a then -((x * y : Nat) : Int) else ((x * y : Nat) : Int) := by
  cases a <;> simp [Int.neg_mul]
theorem sq_add (a b : Bool) {n m d e : Nat} (hd : d ≠ 0) (he : e ≠ 0) : sq a n d + sq b m e = mkRat ((if a then -((n * e : Nat) : Int) else ((n * e : Nat) : Int)) + (if b then -((m * d : Nat) : Int) else ((m * d : Nat) : Int))) (d * e) := by
  unfold sq; rw [Rat.mkRat_add_mkRat _ _ hd he, sgn_scale, sgn_scale]
/-- The sum of two numbers over a common denominator. -/
theorem sq_common (a b : Bool) {n m d : Nat} (hd : d ≠ 0) : sq a n d + sq b m d = mkRat ((if a then -(n : Int) else (n : Int)) + (if b then -(m : Int) else (m : Int))) d := by
  unfold sq; rw [Rat.mkRat_add_mkRat _ _ hd hd, ← Int.add_mul]
  exact Rat.mkRat_mul_right (by omega)
theorem sq_expand (a : Bool) (n d : Nat) {k : Nat} (hk : k ≠ 0) : sq a (n * k) (d * k) = sq a n d := by
  rw [Nat.mul_comm n, Nat.mul_comm d]; exact sq_mul hk
theorem sum_same (a : Bool) {x y d : Nat} (hd : d ≠ 0) : sq a x d + sq a y d = sq a (x + y) d := by
  rw [sq_common a a hd, sgn_add_same]; rfl
theorem sum_ge (a b : Bool) {x y d : Nat} (hd : d ≠ 0) (hab : a ≠ b) (h : y ≤ x) : sq a x d + sq b y d = sq a (x - y) d := by
  rw [sq_common a b hd]; unfold sq
  congr 1
  cases a <;> cases b <;> simp at hab ⊢ <;> omega
theorem sum_lt (a b : Bool) {x y d : Nat} (hd : d ≠ 0) (hab : a ≠ b) (h : x ≤ y) : sq a x d + sq b y d = sq b (y - x) d := by
  rw [Rat.add_comm]; exact sum_ge b a hd (fun h => hab h.symm) h

theorem sq_num_nonneg (q : Rat) : (q.num < 0) ↔ q < 0 := by
  rw [Rat.lt_iff]; simp
/-- The sign of a rational number, as -1, 0 or 1. -/
def sg (q : Rat) : Int := if q < 0 then -1 else if q = 0 then 0 else 1
/-- The order of two rational numbers. -/
def qo (p q : Rat) : Int := sg (p - q)
theorem qo_lt {p q : Rat} (h : p < q) : qo p q = -1 := by unfold qo sg; rw [if_pos]; grind
theorem qo_gt {p q : Rat} (h : q < p) : qo p q = 1 := by unfold qo sg; rw [if_neg (by grind), if_neg (by grind)]
theorem qo_eq {p q : Rat} (h : p = q) : qo p q = 0 := by unfold qo sg; rw [if_neg (by grind), if_pos (by grind)]

theorem lt_sq {a b : Bool} {x y d : Nat} (hd : d ≠ 0) : sq a x d < sq b y d ↔ (if a then -(x : Int) else (x : Int)) < (if b then -(y : Int) else (y : Int)) := by
  unfold sq
  rw [Rat.mkRat_eq_div, Rat.mkRat_eq_div]
  have hp : (0 : Rat) < (d : Rat) := by exact_mod_cast Nat.pos_of_ne_zero hd
  rw [Rat.div_lt_iff hp, Rat.div_mul_cancel (by grind)]
  exact Rat.intCast_lt_intCast

theorem qo_same {x y d : Nat} (hd : d ≠ 0) : qo (sq false x d) (sq false y d) = ord x y := by
  rcases Nat.lt_trichotomy x y with h | h | h
  · rw [ord_lt h, qo_lt]; rw [lt_sq hd]; simp; omega
  · rw [ord_eq h, qo_eq]; rw [h]
  · rw [ord_gt h, qo_gt]; rw [lt_sq hd]; simp; omega
theorem qo_same_neg {x y d : Nat} (hd : d ≠ 0) : qo (sq true x d) (sq true y d) = ord y x := by
  rcases Nat.lt_trichotomy x y with h | h | h
  · rw [ord_gt h, qo_gt]; rw [lt_sq hd]; simp; omega
  · rw [ord_eq h.symm, qo_eq]; rw [h]
  · rw [ord_lt h, qo_lt]; rw [lt_sq hd]; simp; omega
theorem sq_lt_zero {x d : Nat} (hd : d ≠ 0) (hx : x ≠ 0) : sq true x d < 0 := by
  rw [← sq_zero false d, lt_sq hd]; simp; omega
theorem sq_ge_zero {x d : Nat} (hd : d ≠ 0) : 0 ≤ sq false x d := by
  rw [← Rat.not_lt, ← sq_zero false d, lt_sq hd]; simp
theorem qo_neg_pos {x y d e : Nat} (hd : d ≠ 0) (he : e ≠ 0) (hx : x ≠ 0) : qo (sq true x d) (sq false y e) = -1 :=
  qo_lt (by have h1 := sq_lt_zero hd hx; have h2 := sq_ge_zero (x := y) he; grind)
theorem qo_pos_neg {x y d e : Nat} (hd : d ≠ 0) (he : e ≠ 0) (hy : y ≠ 0) : qo (sq false x d) (sq true y e) = 1 :=
  qo_gt (by have h1 := sq_lt_zero he hy; have h2 := sq_ge_zero (x := x) hd; grind)

/-! ### bounds -/
/-- The numerator and the denominator have at most k bytes. -/
def Bd (k : Nat) (q : Rat) : Prop := q.num.natAbs < 256 ^ k ∧ q.den < 256 ^ k
theorem Bd_zero : Bd 1 0 := by constructor <;> decide
theorem Bd.mono {k l : Nat} {q : Rat} (h : Bd k q) (hl : k ≤ l) : Bd l q :=
  ⟨Nat.lt_of_lt_of_le h.1 (Nat.pow_le_pow_right (by omega) hl), Nat.lt_of_lt_of_le h.2 (Nat.pow_le_pow_right (by omega) hl)⟩
theorem Bd_sq {k : Nat} {neg : Bool} {n d : Nat} (hd : d ≠ 0) (h1 : n < 256 ^ k) (h2 : d < 256 ^ k) : Bd k (sq neg n d) := by
  rw [← sq_lowest hd]
  obtain ⟨h3, h4⟩ := sq_num_den (neg := neg) (lowest_den (n := n) hd) (lowest_gcd hd)
  constructor
  · rw [h3]
    have : n / Nat.gcd n d ≤ n := Nat.div_le_self _ _
    generalize n / Nat.gcd n d = y at this ⊢
    have e : (if neg = true then -(y : Int) else (y : Int)).natAbs = y := by cases neg <;> simp
    rw [e]; omega
  · rw [h4]
    have : d / Nat.gcd n d ≤ d := Nat.div_le_self _ _
    omega
theorem Bd.neg {k : Nat} {q : Rat} (h : Bd k q) : Bd k (-q) := by
  constructor
  · rw [Rat.neg_num, Int.natAbs_neg]; exact h.1
  · rw [Rat.neg_den]; exact h.2
theorem mul_lt_pow {x y k l : Nat} (h1 : x < 256 ^ k) (h2 : y < 256 ^ l) : x * y < 256 ^ (k + l) := by
  rw [Nat.pow_add]
  exact Nat.mul_lt_mul_of_lt_of_lt h1 h2
theorem add_lt_pow {x y k : Nat} (h1 : x < 256 ^ k) (h2 : y < 256 ^ k) : x + y < 256 ^ (k + 1) := by
  rw [Nat.pow_succ]; omega
theorem Bd.mul {k l : Nat} {p q : Rat} (h : Bd k p) (g : Bd l q) : Bd (k + l) (p * q) := by
  rw [← sq_self p, ← sq_self q, sq_prod]
  exact Bd_sq (Nat.mul_ne_zero p.den_nz q.den_nz) (mul_lt_pow h.1 g.1) (mul_lt_pow h.2 g.2)
theorem Bd.add {k l : Nat} {p q : Rat} (h : Bd k p) (g : Bd l q) : Bd (k + l + 1) (p + q) := by
  have hne := Nat.mul_ne_zero p.den_nz q.den_nz
  have hm : p.num.natAbs * q.den + q.num.natAbs * p.den < 256 ^ (k + l + 1) :=
    add_lt_pow (mul_lt_pow h.1 g.2) (by rw [Nat.mul_comm]; exact mul_lt_pow h.2 g.1)
  have hd : p.den * q.den < 256 ^ (k + l + 1) := Nat.lt_of_lt_of_le (mul_lt_pow h.2 g.2) (Nat.pow_le_pow_right (by omega) (by omega))
  have key : ∃ (c : Bool) (z : Nat), p + q = sq c z (p.den * q.den) ∧ z ≤ p.num.natAbs * q.den + q.num.natAbs * p.den := by
    refine ⟨decide (p.num * q.den + q.num * p.den < 0), (p.num * q.den + q.num * p.den).natAbs, ?_, ?_⟩
    · rw [Rat.add_def']; unfold sq
      congr 1
      by_cases h : p.num * q.den + q.num * p.den < 0 <;> simp [h] <;> omega
    · refine Nat.le_trans (Int.natAbs_add_le _ _) ?_
      rw [Int.natAbs_mul, Int.natAbs_mul]; simp
  obtain ⟨c, z, e, hz⟩ := key
  rw [e]
  exact Bd_sq hne (by omega) hd
theorem Bd.sub {k l : Nat} {p q : Rat} (h : Bd k p) (g : Bd l q) : Bd (k + l + 1) (p - q) := by
  rw [Rat.sub_eq_add_neg]; exact h.add g.neg
end Nd
namespace Nd
theorem coprime_cross {n m d e : Nat} (hd : d ≠ 0) (he : e ≠ 0) (h1 : Nat.gcd n d = 1) (h2 : Nat.gcd m e = 1) :
    Nat.gcd (n / Nat.gcd n e * (m / Nat.gcd m d)) (d / Nat.gcd m d * (e / Nat.gcd n e)) = 1 := by
  have c1 : Nat.Coprime (n / Nat.gcd n e) (e / Nat.gcd n e) := lowest_gcd he
  have c2 : Nat.Coprime (m / Nat.gcd m d) (d / Nat.gcd m d) := lowest_gcd hd
  have a1 : n / Nat.gcd n e ∣ n := Nat.div_dvd_of_dvd (Nat.gcd_dvd_left n e)
  have a2 : e / Nat.gcd n e ∣ e := Nat.div_dvd_of_dvd (Nat.gcd_dvd_right n e)
  have a3 : m / Nat.gcd m d ∣ m := Nat.div_dvd_of_dvd (Nat.gcd_dvd_left m d)
  have a4 : d / Nat.gcd m d ∣ d := Nat.div_dvd_of_dvd (Nat.gcd_dvd_right m d)
  have c3 : Nat.Coprime (n / Nat.gcd n e) (d / Nat.gcd m d) := Nat.Coprime.coprime_dvd_left a1 (Nat.Coprime.coprime_dvd_right a4 h1)
  have c4 : Nat.Coprime (m / Nat.gcd m d) (e / Nat.gcd n e) := Nat.Coprime.coprime_dvd_left a3 (Nat.Coprime.coprime_dvd_right a2 h2)
  exact Nat.Coprime.mul_left (Nat.Coprime.mul_right c3 c1) (Nat.Coprime.mul_right c2 c4)
theorem sq_cross (a b : Bool) {n m d e : Nat} (hd : d ≠ 0) (he : e ≠ 0) :
    sq (a != b) (n / Nat.gcd n e * (m / Nat.gcd m d)) (d / Nat.gcd m d * (e / Nat.gcd n e)) = sq a n d * sq b m e := by
  rw [sq_prod]
  have g1 : Nat.gcd n e ≠ 0 := Nat.gcd_ne_zero_right he
  have g2 : Nat.gcd m d ≠ 0 := Nat.gcd_ne_zero_right hd
  have e1 : Nat.gcd n e * (n / Nat.gcd n e) = n := Nat.mul_div_cancel' (Nat.gcd_dvd_left n e)
  have e2 : Nat.gcd n e * (e / Nat.gcd n e) = e := Nat.mul_div_cancel' (Nat.gcd_dvd_right n e)
  have e3 : Nat.gcd m d * (m / Nat.gcd m d) = m := Nat.mul_div_cancel' (Nat.gcd_dvd_left m d)
  have e4 : Nat.gcd m d * (d / Nat.gcd m d) = d := Nat.mul_div_cancel' (Nat.gcd_dvd_right m d)
  generalize Nat.gcd n e = g at *
  generalize Nat.gcd m d = k at *
  generalize n / g = n1 at *
  generalize e / g = e5 at *
  generalize m / k = m1 at *
  generalize d / k = d1 at *
  have h1 : n * m = g * k * (n1 * m1) := by rw [← e1, ← e3]; grind
  have h2 : d * e = g * k * (d1 * e5) := by rw [← e2, ← e4]; grind
  rw [h1, h2, sq_mul (Nat.mul_ne_zero g1 g2)]
theorem sq_inv {a : Bool} {n d : Nat} (hd : d ≠ 0) (hn : n ≠ 0) : sq a d n = (sq a n d)⁻¹ := by
  have h1 : sq a n d * sq a d n = 1 := by
    rw [sq_prod, Nat.mul_comm d n]
    have : (a != a) = false := by cases a <;> rfl
    rw [this]
    unfold sq
    simp only [Bool.false_eq_true, if_false]
    rw [Rat.mkRat_eq_div]
    have hne : ((n * d : Nat) : Rat) ≠ 0 := by
      rw [Ne, Rat.natCast_eq_zero_iff]; exact Nat.mul_ne_zero hn hd
    show ((n * d : Nat) : Rat) / ((n * d : Nat) : Rat) = 1
    rw [Rat.div_def, Rat.mul_inv_cancel _ hne]
  exact (Rat.inv_eq_of_mul_eq_one h1).symm
theorem sq_eq_zero {a : Bool} {n d : Nat} (hd : d ≠ 0) : sq a n d = 0 ↔ n = 0 := by
  unfold sq; rw [Rat.mkRat_eq_zero hd]; cases a <;> simp <;> omega
theorem sq_div (a b : Bool) {n m d e : Nat} (hm : m ≠ 0) (he : e ≠ 0) : sq (a != b) (n * e) (d * m) = sq a n d / sq b m e := by
  rw [Rat.div_def, ← sq_inv he hm, sq_prod]
/-- The greatest integer that is not greater. -/
def flo (q : Rat) : Rat := ((q.floor : Int) : Rat)
theorem sq_int (a : Bool) (n : Nat) : sq a n 1 = ((if a then -(n : Int) else (n : Int) : Int) : Rat) := by
  unfold sq; rw [Rat.mkRat_eq_div]
  show _ / (1 : Rat) = _
  rw [Rat.div_def, show (1 : Rat)⁻¹ = 1 from Rat.inv_eq_of_mul_eq_one (Rat.mul_one 1), Rat.mul_one]
theorem flo_sq {a : Bool} {n d k : Nat} (hd : d ≠ 0) (h : k = if a && decide (n % d ≠ 0) then n / d + 1 else n / d) : sq a k 1 = flo (sq a n d) := by
  subst h
  unfold flo
  rw [sq_int]
  congr 1
  have h0 : (sq a n d).floor = (if a then -(n : Int) else (n : Int)) / (d : Int) := by
    rw [← sq_lowest hd]
    obtain ⟨e1, e2⟩ := sq_num_den (neg := a) (lowest_den (n := n) hd) (lowest_gcd hd)
    rw [Rat.floor_def, e1, e2]
    have g1 : Nat.gcd n d ≠ 0 := Nat.gcd_ne_zero_right hd
    have f1 : Nat.gcd n d * (n / Nat.gcd n d) = n := Nat.mul_div_cancel' (Nat.gcd_dvd_left n d)
    have f2 : Nat.gcd n d * (d / Nat.gcd n d) = d := Nat.mul_div_cancel' (Nat.gcd_dvd_right n d)
    clear e1 e2
    generalize Nat.gcd n d = g at *
    generalize n / g = n1 at *
    generalize d / g = d1 at *
    rw [← f1, ← f2]
    have g2 : (0 : Int) < (g : Int) := by omega
    cases a
    · simp only [Bool.false_eq_true, if_false, Int.natCast_mul]
      rw [Int.mul_ediv_mul_of_pos _ _ g2]
    · simp only [if_true, Int.natCast_mul]
      rw [← Int.mul_neg, Int.mul_ediv_mul_of_pos _ _ g2]
  rw [h0]
  cases a
  · simp
  · simp only [if_true, Bool.true_and]
    have h1 := Nat.div_add_mod n d
    by_cases h2 : n % d = 0
    · simp only [h2, ne_eq, not_true, decide_false, Bool.false_eq_true, if_false]
      rw [h2, Nat.add_zero] at h1
      conv => rhs; rw [← h1]
      rw [Int.natCast_mul, ← Int.mul_neg, Int.mul_ediv_cancel_left _ (by omega)]
    · simp only [h2, ne_eq, not_false_eq_true, decide_true, if_true]
      have h3 := Nat.mod_lt n (Nat.pos_of_ne_zero hd)
      symm
      refine (Int.ediv_emod_unique (b := (d : Int)) (r := (d : Int) - (n % d : Nat)) (by omega)).2 ⟨?_, by omega, by omega⟩ |>.1
      conv => rhs; rw [← h1]
      generalize n / d = k
      generalize n % d = r
      push_cast
      grind
end Nd
namespace Nd
/-- The decimal digits of n. -/
def decAux : Nat → Nat → List UInt8
  | 0, _ => []
  | f + 1, n => if n = 0 then [] else decAux f (n / 10) ++ [UInt8.ofNat (48 + n % 10)]
def decL (n : Nat) : List UInt8 := if n = 0 then [48] else decAux n n
theorem decAux_is : ∀ (f n : Nat), n ≤ f → dv (decAux f n) = n ∧ (decAux f n).all isD = true ∧ (decAux f n).head? ≠ some 48
  | 0, n, h => by
    have : n = 0 := by omega
    subst this; exact ⟨rfl, rfl, by simp [decAux]⟩
  | f + 1, n, h => by
    unfold decAux
    split
    · rename_i h0; rw [h0]; exact ⟨rfl, rfl, by simp⟩
    · rename_i h0
      obtain ⟨h1, h2, h3⟩ := decAux_is f (n / 10) (by omega)
      have e : (UInt8.ofNat (48 + n % 10)).toNat = 48 + n % 10 := UInt8.toNat_ofNat_of_lt' (by have := Nat.mod_lt n (show 0 < 10 by omega); simp [UInt8.size]; omega)
      refine ⟨?_, ?_, ?_⟩
      · rw [dv_snoc, h1, e]; omega
      · rw [List.all_append, h2]
        simp [isD]; omega
      · cases hL : decAux f (n / 10) with
        | nil =>
          rw [hL] at h1
          simp at h1
          simp only [List.nil_append, List.head?_cons]
          intro hc
          have := congrArg (fun o => (o.getD 0).toNat) hc
          simp only [Option.getD_some, e] at this
          simp at this
          omega
        | cons x l => rw [hL] at h3; simpa using h3
theorem Dec_decL (n : Nat) : Dec (decL n) n := by
  unfold decL
  split
  · rename_i h; rw [h]; exact ⟨by decide, by decide⟩
  · rename_i h
    obtain ⟨h1, h2, h3⟩ := decAux_is n n (Nat.le_refl n)
    refine ⟨?_, h1⟩
    unfold canD
    rw [h2]
    have hne : decAux n n ≠ [] := by intro he; rw [he] at h1; simp at h1; omega
    simp [h3, hne]
theorem decL_of {l : List UInt8} {n : Nat} (h : Dec l n) : l = decL n := Dec_unique h (Dec_decL n)
theorem Dec_canD {l : List UInt8} (h : canD l = true) : l = decL (dv l) := decL_of ⟨h, rfl⟩
theorem decL_canD (n : Nat) : canD (decL n) = true := (Dec_decL n).1
theorem decL_dv (n : Nat) : dv (decL n) = n := (Dec_decL n).2
example : decL 13 = [49, 51] := by decide
theorem decL_len {n k : Nat} (h : n < 10 ^ k) (hk : 1 ≤ k) : (decL n).length ≤ k := by
  have h1 := decL_canD n
  have h2 := decL_dv n
  apply Classical.byContradiction
  intro hc
  have h3 : decL n ≠ [48] := by intro he; rw [he] at hc; simp at hc; omega
  have h4 := canD_noz h1 h3
  have h5 := lv_ge (B := 10) (dgs (decL n)).reverse h4 (by intro he; rw [List.reverse_eq_nil_iff] at he; simp [dgs] at he; rw [he] at hc; simp at hc)
  have h6 : lv 10 (dgs (decL n)).reverse = n := h2
  rw [h6] at h5
  simp [dgs] at h5
  have h7 : 10 ^ k ≤ 10 ^ ((decL n).length - 1) := Nat.pow_le_pow_right (by omega) (by omega)
  omega
end Nd
