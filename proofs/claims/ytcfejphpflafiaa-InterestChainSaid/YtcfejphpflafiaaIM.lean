/-
  Interest: the mathematics. The rate of a day, the sum of the rates of days, the growth over periods.
-/
import Derived.Test.YtcfejphpflafiaaGA
namespace Go.Proofs.Ytcfejphpflafiaa

abbrev Stp := List (Int × Rat)
/-- The rate of day d: that of the last step that is not after it. -/
def rq (d : Int) : Rat → Stp → Rat
  | acc, [] => acc
  | acc, s :: ls => if s.1 ≤ d then rq d s.2 ls else acc
def accN (l : Stp) (f : Int) : Nat → Rat
  | 0 => 0
  | n + 1 => accN l f n + rq (f + n) 0 l
/-- The sum of the rates of the days from f up to, but not including, t. -/
def accT (l : Stp) (f t : Int) : Rat := accN l f (t - f).toNat
/-- The steps ascend. -/
def Asc : Stp → Prop
  | [] => True
  | s :: ls => (∀ x ∈ ls, s.1 < x.1) ∧ Asc ls
def nx (t : Int) : Stp → Int
  | [] => t
  | s :: _ => min t s.1
/-- The days of a step within an interval. -/
def dys (f t a : Int) (ls : Stp) : Int := max 0 (nx t ls - max f a)
def pu (f t : Int) : Stp → Rat
  | [] => 0
  | s :: ls => s.2 * ((dys f t s.1 ls : Int) : Rat) + pu f t ls

theorem rq_late {d : Int} {acc : Rat} {l : Stp} (h : ∀ x ∈ l, d < x.1) : rq d acc l = acc := by
  cases l with
  | nil => rfl
  | cons s ls =>
    have := h s (by simp)
    simp only [rq]; rw [if_neg (by omega)]
theorem pu_self (f t : Int) (hft : t ≤ f) : ∀ l : Stp, pu f t l = 0
  | [] => rfl
  | s :: ls => by
    have h1 : dys f t s.1 ls = 0 := by
      unfold dys
      cases ls with
      | nil => simp only [nx]; omega
      | cons a as => simp only [nx]; omega
    simp only [pu, h1, pu_self f t hft ls]
    rw [Rat.intCast_zero]; grind
theorem pu_far {f t : Int} : ∀ {l : Stp}, (∀ x ∈ l, t ≤ x.1) → pu f t l = 0
  | [], _ => rfl
  | s :: ls, h => by
    have h0 := h s (by simp)
    have h1 : dys f t s.1 ls = 0 := by
      unfold dys
      cases ls with
      | nil => simp only [nx]; omega
      | cons a as => simp only [nx]; omega
    simp only [pu, h1, pu_far (fun x hx => h x (List.mem_cons_of_mem _ hx))]
    rw [Rat.intCast_zero]; grind
theorem dys_in {f t a b : Int} {ls : Stp} (h1 : f ≤ t) (h2 : a ≤ t) (h3 : ls = [] ∨ ∃ x xs, ls = x :: xs ∧ t < x.1 ∧ b = x.1) : dys f (t + 1) a ls = dys f t a ls + 1 := by
  unfold dys
  rcases h3 with rfl | ⟨x, xs, rfl, h4, _⟩
  · simp only [nx]; omega
  · simp only [nx]; omega
theorem pu_step {f t : Int} (hft : f ≤ t) : ∀ {l : Stp}, Asc l → pu f (t + 1) l = pu f t l + rq t 0 l
  | [], _ => by simp only [pu, rq]; grind
  | s :: ls, ha => by
    by_cases hs : s.1 ≤ t
    · cases ls with
      | nil =>
        have e := dys_in (b := 0) (ls := []) hft hs (.inl rfl)
        simp only [pu, rq, e, if_pos hs]
        simp only [Rat.intCast_add]
        grind
      | cons x xs =>
        have ih := pu_step hft ha.2
        by_cases hx : x.1 ≤ t
        · have e : dys f (t + 1) s.1 (x :: xs) = dys f t s.1 (x :: xs) := by
            unfold dys; simp only [nx]; omega
          have e2 : rq t 0 (s :: x :: xs) = rq t 0 (x :: xs) := by simp only [rq, if_pos hs, if_pos hx]
          have e3 : pu f (t + 1) (s :: x :: xs) = s.2 * ((dys f (t + 1) s.1 (x :: xs) : Int) : Rat) + pu f (t + 1) (x :: xs) := rfl
          have e4 : pu f t (s :: x :: xs) = s.2 * ((dys f t s.1 (x :: xs) : Int) : Rat) + pu f t (x :: xs) := rfl
          rw [e3, e4, e, e2, ih]; grind
        · have e := dys_in (b := x.1) (ls := x :: xs) hft hs (.inr ⟨x, xs, rfl, by omega, rfl⟩)
          have e2 : rq t 0 (s :: x :: xs) = s.2 := by simp only [rq, if_pos hs, if_neg hx]
          have e3 : pu f (t + 1) (s :: x :: xs) = s.2 * ((dys f (t + 1) s.1 (x :: xs) : Int) : Rat) + pu f (t + 1) (x :: xs) := rfl
          have e4 : pu f t (s :: x :: xs) = s.2 * ((dys f t s.1 (x :: xs) : Int) : Rat) + pu f t (x :: xs) := rfl
          have hall : ∀ y ∈ x :: xs, t + 1 ≤ y.1 := by
            intro y hy
            rcases List.mem_cons.1 hy with rfl | h
            · omega
            · have := ha.2.1 y h; omega
          rw [e3, e4, e, e2, pu_far hall, pu_far (fun y hy => by have := hall y hy; omega)]
          simp only [Rat.intCast_add]; grind
    · have h1 : ∀ y ∈ s :: ls, t + 1 ≤ y.1 := by
        intro y hy
        rcases List.mem_cons.1 hy with rfl | h
        · omega
        · have := ha.1 y h; omega
      rw [pu_far h1, pu_far (fun y hy => by have := h1 y hy; omega), rq_late (fun y hy => by have := h1 y hy; omega)]
      grind
theorem pu_accN {l : Stp} (ha : Asc l) (f : Int) : ∀ n : Nat, pu f (f + n) l = accN l f n
  | 0 => by simp only [accN]; exact pu_self _ _ (by omega) l
  | n + 1 => by
    have := pu_step (f := f) (t := f + n) (by omega) ha
    rw [show f + ((n + 1 : Nat) : Int) = f + n + 1 by omega, this, pu_accN ha f n]; rfl
theorem pu_accT {l : Stp} (ha : Asc l) {f t : Int} (h : f ≤ t) : pu f t l = accT l f t := by
  have := pu_accN ha f (t - f).toNat
  rw [show f + ((t - f).toNat : Int) = t by omega] at this
  exact this
theorem accT_self (l : Stp) (t : Int) : accT l t t = 0 := by unfold accT; rw [Int.sub_self]; rfl
theorem accN_add (l : Stp) (f : Int) (n : Nat) : ∀ m : Nat, accN l f n + accN l (f + n) m = accN l f (n + m)
  | 0 => by simp only [accN, Nat.add_zero]; grind
  | m + 1 => by
    have := accN_add l f n m
    rw [← Nat.add_assoc]
    simp only [accN]
    rw [← this, show f + (n : Int) + (m : Int) = f + ((n + m : Nat) : Int) by omega]; grind
theorem accT_add (l : Stp) {f m t : Int} (h1 : f ≤ m) (h2 : m ≤ t) : accT l f m + accT l m t = accT l f t := by
  unfold accT
  have := accN_add l f (m - f).toNat (t - m).toNat
  rw [show f + ((m - f).toNat : Int) = m by omega, show (m - f).toNat + (t - m).toNat = (t - f).toNat by omega] at this
  exact this
theorem accN_const (l : Stp) (f : Int) (r : Rat) : ∀ n : Nat, (∀ d, f ≤ d → d < f + n → rq d 0 l = r) → accN l f n = r * ((n : Int) : Rat)
  | 0, _ => by simp [accN]
  | n + 1, h => by
    simp only [accN]
    rw [accN_const l f r n (fun d h1 h2 => h d h1 (by omega)), h (f + n) (by omega) (by omega)]
    rw [show ((n + 1 : Nat) : Int) = (n : Int) + 1 by omega, Rat.intCast_add]; grind
theorem accT_const (l : Stp) {f t : Int} (hft : f ≤ t) (r : Rat) (h : ∀ d, f ≤ d → d < t → rq d 0 l = r) : accT l f t = r * ((t - f : Int) : Rat) := by
  unfold accT
  rw [accN_const l f r _ (fun d h1 h2 => h d h1 (by omega)), show ((t - f).toNat : Int) = t - f by omega]
theorem accT_one (l : Stp) (d : Int) : accT l d (d + 1) = rq d 0 l := by
  rw [accT_const l (by omega) (rq d 0 l) (fun x h1 h2 => by rw [show x = d by omega])]
  rw [show d + 1 - d = (1 : Int) by omega]; grind
/-- No step begins within the interval: the rate stays. -/
theorem rq_same {f d : Int} (h1 : f ≤ d) : ∀ (l : Stp) (acc : Rat), (∀ x ∈ l, ¬ (f < x.1 ∧ x.1 ≤ d)) → rq d acc l = rq f acc l
  | [], _, _ => rfl
  | s :: ls, acc, h => by
    have h0 := h s (by simp)
    by_cases hs : s.1 ≤ f
    · simp only [rq]; rw [if_pos hs, if_pos (by omega)]; exact rq_same h1 ls _ (fun x hx => h x (by simp [hx]))
    · simp only [rq]; rw [if_neg hs, if_neg (by omega)]
theorem rq_nonneg {d : Int} : ∀ {l : Stp} {acc : Rat}, 0 ≤ acc → (∀ x ∈ l, 0 ≤ x.2) → 0 ≤ rq d acc l
  | [], _, h, _ => h
  | s :: ls, acc, h, hl => by
    simp only [rq]
    split
    · exact rq_nonneg (hl s (by simp)) (fun x hx => hl x (by simp [hx]))
    · exact h
theorem accN_nonneg {l : Stp} {f : Int} (h : ∀ x ∈ l, 0 ≤ x.2) : ∀ n, 0 ≤ accN l f n
  | 0 => Rat.le_refl
  | n + 1 => by
    simp only [accN]
    have h1 := accN_nonneg (f := f) h n
    have h2 : 0 ≤ rq (f + n) 0 l := rq_nonneg Rat.le_refl h
    grind
theorem accT_nonneg {l : Stp} {f t : Int} (h : ∀ x ∈ l, 0 ≤ x.2) : 0 ≤ accT l f t := accN_nonneg h _

/-- The growth over the j-th period. -/
def fac (l : Stp) (b : Rat) (f t n : Int) (i : Nat) : Rat := 1 + accT l (min (f + i * n) t) (min (f + (i + 1) * n) t) / b
def gro (l : Stp) (b : Rat) (f t n : Int) : Nat → Rat
  | 0 => 1
  | j + 1 => gro l b f t n j * fac l b f t n j
theorem fac_stop {l : Stp} {b : Rat} {f t n : Int} {i : Nat} (hn : 1 ≤ n) (h : t ≤ f + i * n) : fac l b f t n i = 1 := by
  unfold fac
  have e1 : min (f + i * n) t = t := by omega
  have e2 : min (f + ((i : Int) + 1) * n) t = t := by rw [Int.add_mul]; omega
  rw [e1, e2, accT_self]; grind
theorem gro_stop {l : Stp} {b : Rat} {f t n : Int} {j : Nat} (hn : 1 ≤ n) (h : t ≤ f + j * n) : ∀ k, gro l b f t n (j + k) = gro l b f t n j
  | 0 => rfl
  | k + 1 => by
    have ih := gro_stop (l := l) (b := b) hn h k
    rw [← Nat.add_assoc]; simp only [gro]
    rw [ih, fac_stop hn (by
      have : (j : Int) * n ≤ ((j + k : Nat) : Int) * n := Int.mul_le_mul_of_nonneg_right (by omega) (by omega)
      omega)]; grind
/-- The growth over the whole interval. -/
def growth (l : Stp) (b : Rat) (f t n : Int) : Rat := gro l b f t n (t - f).toNat
theorem gro_growth {l : Stp} {b : Rat} {f t n : Int} {j : Nat} (hn : 1 ≤ n) (h : t ≤ f + j * n) : gro l b f t n j = growth l b f t n := by
  unfold growth
  have hc : t ≤ f + (((t - f).toNat : Nat) : Int) * n := by
    have : (((t - f).toNat : Nat) : Int) * 1 ≤ (((t - f).toNat : Nat) : Int) * n := Int.mul_le_mul_of_nonneg_left hn (by omega)
    omega
  rcases Nat.le_total j (t - f).toNat with h1 | h1
  · have := gro_stop (l := l) (b := b) hn h ((t - f).toNat - j)
    rw [show j + ((t - f).toNat - j) = (t - f).toNat by omega] at this
    exact this.symm
  · have := gro_stop (l := l) (b := b) hn hc (j - (t - f).toNat)
    rw [show (t - f).toNat + (j - (t - f).toNat) = j by omega] at this
    exact this
theorem growth_one {l : Stp} {b : Rat} {f t n : Int} (hft : f ≤ t) (hn : 1 ≤ n) (h : t - f ≤ n) : growth l b f t n = 1 + accT l f t / b := by
  rw [← gro_growth (j := 1) hn (by omega)]
  simp only [gro, fac]
  rw [show min (f + ((0 : Nat) : Int) * n) t = f by simp; omega, show min (f + (((0 : Nat) : Int) + 1) * n) t = t by simp; omega]
  grind
theorem div_nonneg' {a b : Rat} (ha : 0 ≤ a) (hb : 0 < b) : 0 ≤ a / b := by
  rw [Rat.div_def]; exact Rat.mul_nonneg ha (Rat.le_of_lt (Rat.inv_pos.2 hb))
theorem gro_ge {l : Stp} {b : Rat} {f t n : Int} (hl : ∀ x ∈ l, 0 ≤ x.2) (hb : 0 < b) (hft : f ≤ t) (hn : 1 ≤ n) : ∀ j : Nat, 1 + accT l f (min (f + j * n) t) / b ≤ gro l b f t n j
  | 0 => by
    rw [show min (f + ((0 : Nat) : Int) * n) t = f by simp; omega, accT_self]
    simp only [gro]; grind
  | j + 1 => by
    have ih := gro_ge hl hb hft hn j
    have hjn : 0 ≤ (j : Int) * n := Int.mul_nonneg (by omega) (by omega)
    have e : ((j : Int) + 1) * n = (j : Int) * n + n := by rw [Int.add_mul]; omega
    have ha := accT_add l (f := f) (m := min (f + j * n) t) (t := min (f + ((j : Int) + 1) * n) t) (by omega) (by omega)
    rw [show ((j + 1 : Nat) : Int) = (j : Int) + 1 by omega]
    simp only [gro, fac]
    rw [← ha]
    obtain ⟨x, hx⟩ : ∃ x, accT l f (min (f + j * n) t) / b = x := ⟨_, rfl⟩
    obtain ⟨y, hy⟩ : ∃ y, accT l (min (f + j * n) t) (min (f + ((j : Int) + 1) * n) t) / b = y := ⟨_, rfl⟩
    have hx0 : 0 ≤ x := by rw [← hx]; exact div_nonneg' (accT_nonneg hl) hb
    have hy0 : 0 ≤ y := by rw [← hy]; exact div_nonneg' (accT_nonneg hl) hb
    have e2 : (accT l f (min (f + j * n) t) + accT l (min (f + j * n) t) (min (f + ((j : Int) + 1) * n) t)) / b = x + y := by rw [← hx, ← hy]; grind
    rw [e2, hy]
    rw [hx] at ih
    have h1 : (1 + x) * (1 + y) ≤ gro l b f t n j * (1 + y) := Rat.mul_le_mul_of_nonneg_right ih (by grind)
    have h2 : 0 ≤ x * y := Rat.mul_nonneg hx0 hy0
    grind
theorem growth_ge {l : Stp} {b : Rat} {f t n : Int} (hl : ∀ x ∈ l, 0 ≤ x.2) (hb : 0 < b) (hft : f ≤ t) (hn : 1 ≤ n) : 1 + accT l f t / b ≤ growth l b f t n := by
  have := gro_ge hl hb hft hn (t - f).toNat
  have hc : t ≤ f + (((t - f).toNat : Nat) : Int) * n := by
    have : (((t - f).toNat : Nat) : Int) * 1 ≤ (((t - f).toNat : Nat) : Int) * n := Int.mul_le_mul_of_nonneg_left hn (by omega)
    omega
  rw [show min (f + (((t - f).toNat : Nat) : Int) * n) t = t by omega] at this
  exact this
/-- Whole periods first: the growths multiply. -/
theorem gro_first {l : Stp} {b : Rat} {f t n : Int} {m : Nat} (hn : 1 ≤ n) (ht : f + m * n ≤ t) : ∀ j, j ≤ m → gro l b f t n j = gro l b f (f + m * n) n j
  | 0, _ => rfl
  | j + 1, hj => by
    simp only [gro, fac]
    have h1 : ((j : Int) + 1) * n ≤ (m : Int) * n := Int.mul_le_mul_of_nonneg_right (by omega) (by omega)
    have e : ((j : Int) + 1) * n = (j : Int) * n + n := by rw [Int.add_mul]; omega
    rw [gro_first hn ht j (by omega)]
    rw [show min (f + (j : Int) * n) t = f + (j : Int) * n by omega, show min (f + ((j : Int) + 1) * n) t = f + ((j : Int) + 1) * n by omega, show min (f + (j : Int) * n) (f + (m : Int) * n) = f + (j : Int) * n by omega, show min (f + ((j : Int) + 1) * n) (f + (m : Int) * n) = f + ((j : Int) + 1) * n by omega]
theorem gro_then {l : Stp} {b : Rat} {f t n : Int} {m : Nat} (hn : 1 ≤ n) (ht : f + m * n ≤ t) : ∀ k, gro l b f t n (m + k) = gro l b f (f + m * n) n m * gro l b (f + m * n) t n k
  | 0 => by simp only [gro, Nat.add_zero]; rw [gro_first hn ht m (Nat.le_refl _)]; grind
  | k + 1 => by
    rw [← Nat.add_assoc]
    simp only [gro]
    rw [gro_then hn ht k]
    have e : fac l b f t n (m + k) = fac l b (f + m * n) t n k := by
      unfold fac
      rw [show ((m + k : Nat) : Int) = (m : Int) + k by omega]
      rw [show ((m : Int) + k) * n = m * n + k * n by rw [Int.add_mul], show ((m : Int) + k + 1) * n = m * n + (k + 1) * n by rw [Int.add_assoc, Int.add_mul]]
      rw [Int.add_assoc, Int.add_assoc]
    rw [e]; grind
theorem growth_chain {l : Stp} {b : Rat} {f t n : Int} {m : Nat} (hn : 1 ≤ n) (ht : f + m * n ≤ t) : growth l b f t n = growth l b f (f + m * n) n * growth l b (f + m * n) t n := by
  have hc : t ≤ f + (m * n) + (((t - (f + m * n)).toNat : Nat) : Int) * n := by
    have : (((t - (f + m * n)).toNat : Nat) : Int) * 1 ≤ (((t - (f + m * n)).toNat : Nat) : Int) * n := Int.mul_le_mul_of_nonneg_left hn (by omega)
    omega
  have h2 := gro_then (l := l) (b := b) hn ht (t - (f + m * n)).toNat
  rw [gro_growth hn (by rw [show ((m + (t - (f + m * n)).toNat : Nat) : Int) = (m : Int) + (t - (f + m * n)).toNat by omega, Int.add_mul]; omega), gro_growth hn (Int.le_refl _)] at h2
  exact h2
theorem growth_pos {l : Stp} {b : Rat} {f t n : Int} (hl : ∀ x ∈ l, 0 ≤ x.2) (hb : 0 < b) (hft : f ≤ t) (hn : 1 ≤ n) : 1 ≤ growth l b f t n := by
  have h1 := growth_ge hl hb hft hn
  have h2 : 0 ≤ accT l f t / b := div_nonneg' (accT_nonneg hl) hb
  grind

/-- The steps that law 0 builds out of pairs, the first day given. -/
def bldQ (ratio : Int → Rat) (d : Int) : List (Int × Int) → Stp
  | [] => []
  | x :: xs => (d + x.1 % 60, ratio (x.2 % 12)) :: bldQ ratio (d + x.1 % 60 + 1) xs
theorem bldQ_from {ratio : Int → Rat} : ∀ {xs : List (Int × Int)} {d : Int} {y}, (∀ x ∈ xs, 0 ≤ x.1) → y ∈ bldQ ratio d xs → d ≤ y.1 ∧ y.1 < d + 60 * xs.length
  | [], _, _, _, h => by cases h
  | x :: xs, d, y, h0, h => by
    have hx := h0 x (by simp)
    have h60 : 0 ≤ x.1 % 60 ∧ x.1 % 60 < 60 := by omega
    simp only [bldQ, List.mem_cons] at h
    rw [List.length_cons]
    rcases h with rfl | h
    · refine ⟨?_, ?_⟩ <;> show _ <;> dsimp only <;> omega
    · have := bldQ_from (fun z hz => h0 z (by simp [hz])) h
      omega
theorem bldQ_length {ratio : Int → Rat} : ∀ (xs : List (Int × Int)) (d : Int), (bldQ ratio d xs).length = xs.length
  | [], _ => rfl
  | x :: xs, d => by simp only [bldQ, List.length_cons, bldQ_length xs]
theorem bldQ_asc {ratio : Int → Rat} : ∀ {xs : List (Int × Int)} {d : Int}, (∀ x ∈ xs, 0 ≤ x.1) → Asc (bldQ ratio d xs)
  | [], _, _ => trivial
  | x :: xs, d, h0 => by
    refine ⟨fun y hy => ?_, bldQ_asc (fun z hz => h0 z (by simp [hz]))⟩
    have := (bldQ_from (fun z hz => h0 z (by simp [hz])) hy).1
    show d + x.1 % 60 < y.1
    omega
theorem bldQ_rate {ratio : Int → Rat} {P : Rat → Prop} (hr : ∀ k, 0 ≤ k → k < 12 → P (ratio k)) : ∀ {xs : List (Int × Int)} {d : Int} {y}, (∀ x ∈ xs, 0 ≤ x.2) → y ∈ bldQ ratio d xs → P y.2
  | [], _, _, _, h => by cases h
  | x :: xs, d, y, h0, h => by
    have hx := h0 x (by simp)
    simp only [bldQ, List.mem_cons] at h
    rcases h with rfl | h
    · exact hr _ (by omega) (by omega)
    · exact bldQ_rate hr (fun z hz => h0 z (by simp [hz])) h
end Go.Proofs.Ytcfejphpflafiaa
