/-
  Party: the mathematics: votes, the least set of controlled companies, votes counted in units.
-/
import Derived.Test.YtgdpcpbmjgaliaaGA
namespace Go.Proofs.Ytgdpcpbmjgaliaa

/-- The data of parties: how many; which are companies; the stakes: how many, owner, company, votes. -/
structure PD where
  n : Nat
  cp : Nat → Bool
  m : Nat
  o : Nat → Nat
  c : Nat → Nat
  q : Nat → Rat
/-- Stakes of valid parties. -/
structure PD.Ok (P : PD) : Prop where
  co : ∀ i, i < P.m → P.c i < P.n
  ow : ∀ i, i < P.m → P.o i < P.n
  kc : ∀ i, i < P.m → P.cp (P.c i) = true
  ne : ∀ i, i < P.m → P.o i ≠ P.c i
  ps : ∀ i, i < P.m → 0 < P.q i
/-- The votes in company k of the owners in X, of the first stakes. -/
def hQ (P : PD) (X : Nat → Bool) (k : Nat) : Nat → Rat
  | 0 => 0
  | i + 1 => hQ P X k i + (if P.c i = k ∧ X (P.o i) = true then P.q i else 0)
theorem hQ_mono {P : PD} {X Y : Nat → Bool} {k : Nat} (hp : ∀ i, i < P.m → 0 < P.q i) (h : ∀ x, X x = true → Y x = true) : ∀ {i : Nat}, i ≤ P.m → hQ P X k i ≤ hQ P Y k i
  | 0, _ => by simp only [hQ]; exact Rat.le_refl
  | i + 1, hi => by
    have h1 := hQ_mono hp h (i := i) (by omega) (k := k)
    have h2 := hp i (by omega)
    simp only [hQ]
    by_cases hx : P.c i = k ∧ X (P.o i) = true
    · rw [if_pos hx, if_pos ⟨hx.1, h _ hx.2⟩]; grind
    · rw [if_neg hx]
      split <;> grind
theorem hQ_nonneg {P : PD} {X : Nat → Bool} {k : Nat} (hp : ∀ i, i < P.m → 0 < P.q i) : ∀ {i : Nat}, i ≤ P.m → 0 ≤ hQ P X k i
  | 0, _ => by simp only [hQ]; exact Rat.le_refl
  | i + 1, hi => by
    have h1 := hQ_nonneg hp (i := i) (by omega) (k := k) (X := X)
    have h2 := hp i (by omega)
    simp only [hQ]
    split <;> grind
theorem hQ_up {P : PD} {X : Nat → Bool} {k : Nat} (hp : ∀ i, i < P.m → 0 < P.q i) {i : Nat} : ∀ {j : Nat}, i ≤ j → j ≤ P.m → hQ P X k i ≤ hQ P X k j
  | 0, hij, _ => by rw [show i = 0 by omega]; exact Rat.le_refl
  | j + 1, hij, hj => by
    by_cases e : i = j + 1
    · rw [e]; exact Rat.le_refl
    · have h1 := hQ_up hp (i := i) (j := j) (by omega) (by omega) (k := k) (X := X)
      have h2 := hp j (by omega)
      simp only [hQ]
      split <;> grind
theorem hQ_congr {P : PD} {X Y : Nat → Bool} {k : Nat} (h : ∀ i, i < P.m → X (P.o i) = Y (P.o i)) : ∀ {i : Nat}, i ≤ P.m → hQ P X k i = hQ P Y k i
  | 0, _ => rfl
  | i + 1, hi => by
    simp only [hQ]
    rw [hQ_congr h (i := i) (by omega), h i (by omega)]
theorem hQ_out {P : PD} {X : Nat → Bool} {k : Nat} (h : ∀ i, i < P.m → P.c i ≠ k) : ∀ {i : Nat}, i ≤ P.m → hQ P X k i = 0
  | 0, _ => rfl
  | i + 1, hi => by
    simp only [hQ]
    rw [hQ_out h (i := i) (by omega), if_neg (fun g => h i (by omega) g.1)]; grind

/-- The owner and the set together have the majority in k, which is another company. -/
def FF (P : PD) (a : Nat) (X : Nat → Bool) (k : Nat) : Bool := decide (k ≠ a) && P.cp k && decide ((1 : Rat) / 2 < hQ P (fun x => x == a || X x) k P.m)
theorem FF_iff {P : PD} {a : Nat} {X : Nat → Bool} {k : Nat} : FF P a X k = true ↔ k ≠ a ∧ P.cp k = true ∧ (1 : Rat) / 2 < hQ P (fun x => x == a || X x) k P.m := by
  unfold FF; simp [and_assoc]
theorem FF_mono {P : PD} {a : Nat} {X Y : Nat → Bool} {k : Nat} (hp : ∀ i, i < P.m → 0 < P.q i) (h : ∀ x, X x = true → Y x = true) (hf : FF P a X k = true) : FF P a Y k = true := by
  rw [FF_iff] at hf ⊢
  refine ⟨hf.1, hf.2.1, ?_⟩
  have := hQ_mono (P := P) (k := k) hp (X := fun x => x == a || X x) (Y := fun x => x == a || Y x) (by
    intro x hx
    simp only [Bool.or_eq_true] at hx ⊢
    exact hx.imp id (h x)) (Nat.le_refl P.m)
  have h2 := hf.2.2
  grind
/-- The set is closed. -/
def Closed (P : PD) (a : Nat) (X : Nat → Bool) : Prop := ∀ k, k < P.n → FF P a X k = true → X k = true
/-- The least closed set: the companies that a controls. -/
structure Least (P : PD) (a : Nat) (X : Nat → Bool) : Prop where
  lt : ∀ k, X k = true → k < P.n
  cl : Closed P a X
  le : ∀ Y, Closed P a Y → ∀ k, X k = true → Y k = true
theorem least_exists (P : PD) (a : Nat) (hp : ∀ i, i < P.m → 0 < P.q i) : ∃ X, Least P a X := by
  refine ⟨fun k => @decide (k < P.n ∧ ∀ Y, Closed P a Y → Y k = true) (Classical.propDecidable _), ⟨?_, ?_, ?_⟩⟩
  · intro k h; exact (@of_decide_eq_true _ (Classical.propDecidable _) h).1
  · intro k hk hf
    refine @decide_eq_true _ (Classical.propDecidable _) ⟨hk, fun Y hY => hY k hk (FF_mono hp ?_ hf)⟩
    intro x hx
    exact (@of_decide_eq_true _ (Classical.propDecidable _) hx).2 Y hY
  · intro Y hY k h; exact (@of_decide_eq_true _ (Classical.propDecidable _) h).2 Y hY
theorem Least.unique {P : PD} {a : Nat} {X Y : Nat → Bool} (h : Least P a X) (g : Least P a Y) : X = Y := by
  funext k
  have h1 := h.le Y g.cl k
  have h2 := g.le X h.cl k
  cases hx : X k <;> cases hy : Y k <;> simp_all
theorem Least.self {P : PD} {a : Nat} {X : Nat → Bool} (h : Least P a X) : X a = false := by
  cases hx : X a
  · rfl
  · have := h.le (fun k => decide (k ≠ a)) (fun k _ hf => decide_eq_true (FF_iff.1 hf).1) a hx
    simp at this
theorem Least.cp {P : PD} {a : Nat} {X : Nat → Bool} (h : Least P a X) {k : Nat} (hk : X k = true) : P.cp k = true :=
  h.le P.cp (fun _ _ hf => (FF_iff.1 hf).2.1) k hk
theorem Least.fix {P : PD} {a : Nat} {X : Nat → Bool} (hp : ∀ i, i < P.m → 0 < P.q i) (h : Least P a X) {k : Nat} (hk : X k = true) : FF P a X k = true := by
  have := h.le (fun k => X k && FF P a X k) (fun k hn hf => by
    have h1 : FF P a X k = true := FF_mono hp (fun x hx => by simp only [Bool.and_eq_true] at hx; exact hx.1) hf
    simp only [Bool.and_eq_true]
    exact ⟨h.cl k hn h1, h1⟩) k hk
  simp only [Bool.and_eq_true] at this
  exact this.2
theorem Least.iff {P : PD} {a : Nat} {X : Nat → Bool} (hp : ∀ i, i < P.m → 0 < P.q i) (h : Least P a X) {k : Nat} (hk : k < P.n) : X k = true ↔ FF P a X k = true := ⟨h.fix hp, h.cl k hk⟩
/-- A set below the least one that is closed is the least one. -/
theorem Least.eq_of {P : PD} {a : Nat} {X Y : Nat → Bool} (h : Least P a X) (h1 : ∀ k, Y k = true → X k = true) (h2 : Closed P a Y) : Y = X := by
  funext k
  have h3 := h.le Y h2 k
  have h4 := h1 k
  cases hx : X k <;> cases hy : Y k <;> simp_all
/-- Control is transitive. -/
theorem Least.trans {P : PD} {a b : Nat} {X Y : Nat → Bool} (hp : ∀ i, i < P.m → 0 < P.q i) (hX : Least P a X) (hY : Least P b Y) (hb : X b = true) {k : Nat} (hk : Y k = true) (hka : k ≠ a) : X k = true := by
  have := hY.le (fun k => X k || decide (k = a)) (fun k hn hf => by
    rw [FF_iff] at hf
    by_cases e : k = a
    · simp [e]
    · have : FF P a X k = true := by
        rw [FF_iff]
        refine ⟨e, hf.2.1, ?_⟩
        have := hQ_mono (P := P) (k := k) hp (X := fun x => x == b || (X x || decide (x = a))) (Y := fun x => x == a || X x) (by
          intro x hx
          simp only [Bool.or_eq_true, beq_iff_eq, decide_eq_true_eq] at hx ⊢
          rcases hx with rfl | hx | hx
          · exact .inr hb
          · exact .inr hx
          · exact .inl hx) (Nat.le_refl P.m)
        have h2 := hf.2.2
        grind
      have := hX.cl k hn this
      simp [this]) k hk
  simp only [Bool.or_eq_true, decide_eq_true_eq] at this
  exact this.resolve_right hka
/-- More stakes, more control. -/
theorem Least.more {P Q : PD} {a : Nat} {X Y : Nat → Bool} (hn : P.n = Q.n) (hc : P.cp = Q.cp) (hq : ∀ Z k, hQ Q Z k Q.m ≤ hQ P Z k P.m) (hX : Least P a X) (hY : Least Q a Y) {k : Nat} (hk : Y k = true) : X k = true :=
  hY.le X (fun k hkn hf => hX.cl k (by omega) (by
    rw [FF_iff] at hf ⊢
    refine ⟨hf.1, by rw [hc]; exact hf.2.1, ?_⟩
    have h1 := hq (fun x => x == a || X x) k
    have h2 := hf.2.2
    grind)) k hk

/-! ### votes counted in units -/
/-- The units of company k, of the first stakes. -/
def Uc (P : PD) (k : Nat) : Nat → Nat
  | 0 => 1
  | i + 1 => if P.c i = k then Nat.lcm (Uc P k i) (P.q i).den else Uc P k i
theorem Uc_pos (P : PD) (k : Nat) : ∀ i, 0 < Uc P k i
  | 0 => by simp [Uc]
  | i + 1 => by
    simp only [Uc]
    split
    · exact Nat.lcm_pos (Uc_pos P k i) (P.q i).den_pos
    · exact Uc_pos P k i
theorem Uc_dvd {P : PD} {k i : Nat} : ∀ {j : Nat}, i < j → P.c i = k → (P.q i).den ∣ Uc P k j
  | 0, h, _ => absurd h (by omega)
  | j + 1, h, hk => by
    simp only [Uc]
    by_cases e : i = j
    · subst e; rw [if_pos hk]; exact Nat.dvd_lcm_right _ _
    · have h1 := Uc_dvd (j := j) (by omega) hk
      split
      · exact Nat.dvd_trans h1 (Nat.dvd_lcm_left _ _)
      · exact h1
theorem lcm_prog (a b : Nat) : a * (b / Nat.gcd b a) = Nat.lcm a b := by
  rw [Nat.lcm, Nat.mul_div_assoc _ (Nat.gcd_dvd_right a b), Nat.gcd_comm]
theorem lcm_le_mul {a b : Nat} : Nat.lcm a b ≤ a * b := by
  rw [Nat.lcm]; exact Nat.div_le_self _ _
theorem Uc_lt {P : PD} {k z : Nat} (hd : ∀ i, i < P.m → (P.q i).den < 256 ^ z) : ∀ {i : Nat}, i ≤ P.m → Uc P k i ≤ 256 ^ (z * i)
  | 0, _ => by simp [Uc]
  | i + 1, hi => by
    have h1 := Uc_lt hd (i := i) (by omega) (k := k)
    have h2 := hd i (by omega)
    have h3 : 256 ^ (z * i) * 256 ^ z = 256 ^ (z * (i + 1)) := by rw [← Nat.pow_add, Nat.mul_succ]
    simp only [Uc]
    split
    · refine Nat.le_trans lcm_le_mul ?_
      rw [← h3]; exact Nat.mul_le_mul h1 (by omega)
    · rw [← h3]
      have : 0 < 256 ^ z := Nat.pow_pos (by omega)
      exact Nat.le_trans h1 (Nat.le_mul_of_pos_right _ this)
/-- The units of all votes in k. -/
def Un (P : PD) (k : Nat) : Nat := Uc P k P.m
/-- The units of stake i. -/
def Vn (P : PD) (i : Nat) : Nat := (P.q i).num.natAbs * (Un P (P.c i) / (P.q i).den)
theorem Vn_rat {P : PD} {i : Nat} (hi : i < P.m) (hp : 0 < P.q i) : ((Vn P i : Nat) : Rat) = P.q i * ((Un P (P.c i) : Nat) : Rat) := by
  obtain ⟨d, hd⟩ := Uc_dvd (P := P) hi rfl
  have hz := (P.q i).den_pos
  unfold Vn Un
  rw [hd, Nat.mul_div_cancel_left _ hz]
  have hn : 0 < (P.q i).num := by
    have a1 : 0 ≤ (P.q i).num := Rat.num_nonneg.2 (Rat.le_of_lt hp)
    have a2 : (P.q i).num ≠ 0 := fun h => by have := Rat.num_eq_zero.1 h; rw [this] at hp; exact absurd hp (by decide)
    omega
  have h1 : P.q i = ((P.q i).num : Rat) / ((P.q i).den : Rat) := by
    rw [← Rat.mkRat_eq_div, Rat.mkRat_self]
  have h2 : (((P.q i).num.natAbs : Nat) : Rat) = ((P.q i).num : Rat) := by
    rw [← Rat.intCast_natCast]; congr 1; omega
  have h3 : ((P.q i).den : Rat) ≠ 0 := by
    intro h; have := Rat.natCast_eq_zero_iff.1 h; omega
  rw [Rat.natCast_mul, Rat.natCast_mul, h2]
  conv => rhs; lhs; rw [h1]
  generalize ((P.q i).num : Rat) = A at *
  generalize ((P.q i).den : Rat) = B at *
  generalize ((d : Nat) : Rat) = C at *
  grind
/-- The units in company k of the owners in X, of the first stakes. -/
def hN (P : PD) (X : Nat → Bool) (k : Nat) : Nat → Nat
  | 0 => 0
  | i + 1 => hN P X k i + (if P.c i = k ∧ X (P.o i) = true then Vn P i else 0)
theorem hN_rat {P : PD} {X : Nat → Bool} {k : Nat} (hp : ∀ i, i < P.m → 0 < P.q i) : ∀ {i : Nat}, i ≤ P.m → ((hN P X k i : Nat) : Rat) = hQ P X k i * ((Un P k : Nat) : Rat)
  | 0, _ => by simp only [hN, hQ]; grind
  | i + 1, hi => by
    have h1 := hN_rat hp (i := i) (by omega) (k := k) (X := X)
    simp only [hN, hQ]
    rw [Rat.natCast_add, h1]
    by_cases hx : P.c i = k ∧ X (P.o i) = true
    · rw [if_pos hx, if_pos hx, Vn_rat (by omega) (hp i (by omega)), hx.1]; grind
    · rw [if_neg hx, if_neg hx]; grind
theorem Un_rat (P : PD) (k : Nat) : 0 < ((Un P k : Nat) : Rat) := Rat.natCast_pos.2 (Uc_pos P k P.m)
theorem hN_gt {P : PD} {X : Nat → Bool} {k i : Nat} (hp : ∀ i, i < P.m → 0 < P.q i) (hi : i ≤ P.m) : Un P k < hN P X k i ↔ 1 < hQ P X k i := by
  have h1 := hN_rat (X := X) (k := k) hp hi
  have h2 := Un_rat P k
  rw [← Rat.natCast_lt_natCast, h1]
  generalize ((Un P k : Nat) : Rat) = U at *
  generalize hQ P X k i = x at *
  constructor
  · intro h
    apply Classical.byContradiction
    intro hx
    have : x ≤ 1 := Rat.not_lt.1 hx
    have := Rat.mul_le_mul_of_nonneg_right this (Rat.le_of_lt h2)
    grind
  · intro h
    have := Rat.mul_lt_mul_of_pos_right h h2
    grind
theorem hN_half {P : PD} {X : Nat → Bool} {k i : Nat} (hp : ∀ i, i < P.m → 0 < P.q i) (hi : i ≤ P.m) : Un P k < hN P X k i * 2 ↔ (1 : Rat) / 2 < hQ P X k i := by
  have h1 := hN_rat (X := X) (k := k) hp hi
  have h2 := Un_rat P k
  rw [← Rat.natCast_lt_natCast, Rat.natCast_mul, h1]
  generalize ((Un P k : Nat) : Rat) = U at *
  generalize hQ P X k i = x at *
  have e2 : ((2 : Nat) : Rat) = 2 := rfl
  rw [e2]
  constructor
  · intro h
    apply Classical.byContradiction
    intro hx
    have : x ≤ 1 / 2 := Rat.not_lt.1 hx
    have := Rat.mul_le_mul_of_nonneg_right this (Rat.le_of_lt h2)
    grind
  · intro h
    have := Rat.mul_lt_mul_of_pos_right h h2
    grind
theorem hN_or {P : PD} {X : Nat → Bool} {x k : Nat} (hx : X x = false) : ∀ {i : Nat}, hN P (fun y => X y || y == x) k i = hN P X k i + hN P (fun y => y == x) k i
  | 0 => rfl
  | i + 1 => by
    simp only [hN]
    rw [hN_or hx (i := i)]
    by_cases hk : P.c i = k
    · by_cases h2 : P.o i = x
      · subst h2
        simp [hk, hx]; omega
      · simp [hk, h2]
        omega
    · simp [hk]
theorem hN_mono {P : PD} {X Y : Nat → Bool} {k : Nat} (h : ∀ x, X x = true → Y x = true) : ∀ {i : Nat}, hN P X k i ≤ hN P Y k i
  | 0 => Nat.le_refl _
  | i + 1 => by
    have h1 := hN_mono (P := P) h (i := i) (k := k)
    simp only [hN]
    by_cases hx : P.c i = k ∧ X (P.o i) = true
    · rw [if_pos hx, if_pos ⟨hx.1, h _ hx.2⟩]; omega
    · rw [if_neg hx]; omega
theorem hN_up {P : PD} {X : Nat → Bool} {k i : Nat} : ∀ {j : Nat}, i ≤ j → hN P X k i ≤ hN P X k j
  | 0, h => by rw [show i = 0 by omega]; exact Nat.le_refl _
  | j + 1, h => by
    by_cases e : i = j + 1
    · rw [e]; exact Nat.le_refl _
    · have := hN_up (P := P) (X := X) (k := k) (i := i) (j := j) (by omega)
      simp only [hN]; omega
theorem hN_none (P : PD) (k : Nat) : ∀ i, hN P (fun _ => false) k i = 0
  | 0 => rfl
  | i + 1 => by simp [hN, hN_none P k i]
theorem Vn_lt {P : PD} {z i : Nat} (hd : ∀ i, i < P.m → (P.q i).den < 256 ^ z) (hn : ∀ i, i < P.m → (P.q i).num.natAbs < 256 ^ z) (hi : i < P.m) : Vn P i ≤ 256 ^ (z * (P.m + 1)) := by
  unfold Vn Un
  have h1 : Uc P (P.c i) P.m / (P.q i).den ≤ 256 ^ (z * P.m) := Nat.le_trans (Nat.div_le_self _ _) (Uc_lt hd (Nat.le_refl _))
  have h2 := hn i hi
  have h3 : 256 ^ z * 256 ^ (z * P.m) = 256 ^ (z * (P.m + 1)) := by rw [← Nat.pow_add, Nat.mul_succ, Nat.add_comm]
  rw [← h3]; exact Nat.mul_le_mul (by omega) h1
theorem hN_lt {P : PD} {X : Nat → Bool} {z k : Nat} (hd : ∀ i, i < P.m → (P.q i).den < 256 ^ z) (hn : ∀ i, i < P.m → (P.q i).num.natAbs < 256 ^ z) : ∀ {i : Nat}, i ≤ P.m → hN P X k i ≤ i * 256 ^ (z * (P.m + 1))
  | 0, _ => by simp [hN]
  | i + 1, hi => by
    have h1 := hN_lt hd hn (i := i) (by omega) (X := X) (k := k)
    have h2 := Vn_lt hd hn (show i < P.m by omega)
    simp only [hN]
    rw [Nat.add_mul]
    split <;> omega
/-- All numbers that are counted are shorter. -/
structure Sz (P : PD) (Z : Nat) : Prop where
  u : ∀ k i, i ≤ P.m → Uc P k i < 256 ^ Z
  v : ∀ i, i < P.m → Vn P i < 256 ^ Z
  h : ∀ X k i, i ≤ P.m → hN P X k i < 256 ^ Z
  d : ∀ i, i < P.m → (P.q i).den < 256 ^ Z
  g : ∀ i, i < P.m → (P.q i).num.natAbs < 256 ^ Z
theorem Sz_of {P : PD} {z : Nat} (hd : ∀ i, i < P.m → (P.q i).den < 256 ^ z) (hn : ∀ i, i < P.m → (P.q i).num.natAbs < 256 ^ z) (hm : P.m ≤ 64) : Sz P (z * (P.m + 1) + 1) := by
  have h1 : 256 ^ (z * (P.m + 1)) * 256 = 256 ^ (z * (P.m + 1) + 1) := rfl
  have h0 : 0 < 256 ^ (z * (P.m + 1)) := Nat.pow_pos (by omega)
  have hz : 256 ^ z ≤ 256 ^ (z * (P.m + 1)) := Nat.pow_le_pow_right (by omega) (by rw [Nat.mul_succ]; exact Nat.le_add_left _ _)
  refine ⟨fun k i hi => ?_, fun i hi => ?_, fun X k i hi => ?_, fun i hi => ?_, fun i hi => ?_⟩
  · have h2 := Uc_lt (k := k) hd hi
    have h3 : 256 ^ (z * i) ≤ 256 ^ (z * (P.m + 1)) := Nat.pow_le_pow_right (by omega) (Nat.mul_le_mul_left _ (by omega))
    omega
  · have h2 := Vn_lt hd hn hi
    omega
  · have h2 := hN_lt (X := X) (k := k) hd hn hi
    have h3 : i * 256 ^ (z * (P.m + 1)) ≤ 64 * 256 ^ (z * (P.m + 1)) := Nat.mul_le_mul_right _ (by omega)
    omega
  · have := hd i hi; omega
  · have := hn i hi; omega
end Go.Proofs.Ytgdpcpbmjgaliaa
