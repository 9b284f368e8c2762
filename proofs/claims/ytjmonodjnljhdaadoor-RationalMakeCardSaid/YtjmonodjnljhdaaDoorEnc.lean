/-
  api.Rat as data, and the rational number that it represents.
-/
import Derived.Test.YtjmonodjnljhdaaDoorW3
import Derived.Test.YtjmonodjnljhdaaDoorMath3
namespace Go.Proofs.YtjmonodjnljhdaaDoor
open Go.RowKit Nd
theorem Is_def {s : ByteArray} {n : Nat} : Is s n ↔ val s = n ∧ nolead s.data.toList := Iff.rfl
theorem Is_zero {s : ByteArray} : Is s 0 ↔ s = ⟨#[]⟩ := by
  constructor
  · intro h; exact Is_unique h ⟨rfl, nolead_nil⟩
  · rintro rfl; exact ⟨rfl, nolead_nil⟩
theorem Is_one {s : ByteArray} : Is s 1 ↔ s = ⟨#[1]⟩ := by
  have h1 : Is ⟨#[1]⟩ 1 := ⟨rfl, by simp [nolead]⟩
  constructor
  · intro h; exact Is_unique h h1
  · rintro rfl; exact h1

/-! ### the bytes of a number -/
def nbAux : Nat → Nat → List UInt8
  | 0, _ => []
  | f + 1, n => if n = 0 then [] else nbAux f (n / 256) ++ [UInt8.ofNat (n % 256)]
theorem nbAux_is : ∀ (f n : Nat), n ≤ f → isN (nbAux f n) n
  | 0, n, h => by
    have : n = 0 := by omega
    subst this; exact ⟨rfl, nolead_nil⟩
  | f + 1, n, h => by
    unfold nbAux
    split
    · rename_i h0; rw [h0]; exact ⟨rfl, nolead_nil⟩
    · rename_i h0
      obtain ⟨h1, h2⟩ := nbAux_is f (n / 256) (by omega)
      have e : (UInt8.ofNat (n % 256)).toNat = n % 256 := UInt8.toNat_ofNat_of_lt' (by have := Nat.mod_lt n (show 0 < 256 by omega); simpa [UInt8.size] using this)
      refine ⟨?_, ?_⟩
      · rw [bv_snoc, h1, e]; omega
      · cases hL : nbAux f (n / 256) with
        | nil =>
          rw [hL] at h1
          simp at h1
          simp only [nolead, List.nil_append, List.head?_cons]
          intro hc
          have := congrArg (fun o => (o.getD 0).toNat) hc
          simp only [Option.getD_some, e] at this
          simp at this
          omega
        | cons x l => rw [hL] at h2; simpa [nolead] using h2
/-- The bytes of n, without leading zeros. -/
def nb (n : Nat) : ByteArray := ⟨(nbAux n n).toArray⟩
theorem Is_nb (n : Nat) : Is (nb n) n := by unfold Is nb; simpa using nbAux_is n n (Nat.le_refl n)
theorem nb_of {s : ByteArray} {n : Nat} (h : Is s n) : s = nb n := Is_unique h (Is_nb n)
theorem val_nb (n : Nat) : val (nb n) = n := (Is_nb n).1

/-! ### api.Rat as data -/
structure Q3 where
  neg : Bool
  num : ByteArray
  den : ByteArray
/-- x is the only valid form of q. -/
structure Enc (x : Q3) (q : Rat) : Prop where
  neg : x.neg = decide (q.num < 0)
  num : Is x.num q.num.natAbs
  den : Is x.den (if q.den = 1 then 0 else q.den)
theorem Enc.unique {x y : Q3} {q : Rat} (h : Enc x q) (k : Enc y q) : x = y := by
  obtain ⟨a, b, c⟩ := x
  obtain ⟨a', b', c'⟩ := y
  have h1 := h.neg.trans k.neg.symm
  have h2 := Is_unique h.num k.num
  have h3 := Is_unique h.den k.den
  simp only at h1 h2 h3
  rw [h1, h2, h3]
def nolB (s : ByteArray) : Bool := decide (s.data.toList.head? ≠ some 0)
theorem nolB_iff {s : ByteArray} : nolB s = true ↔ nolead s.data.toList := by unfold nolB nolead; simp
/-- Whether x is valid. -/
def okB (x : Q3) : Bool := nolB x.num && nolB x.den && decide (val x.den ≠ 1) && (if val x.num = 0 then decide (val x.den = 0) && !x.neg else decide (val x.den = 0) || decide (Nat.gcd (val x.num) (val x.den) = 1))
def dn (x : Q3) : Nat := if val x.den = 0 then 1 else val x.den
theorem dn_pos (x : Q3) : dn x ≠ 0 := by unfold dn; split <;> omega
/-- The number that x counts as. -/
def ratOf (x : Q3) : Rat := if okB x then sq x.neg (val x.num) (dn x) else 0
theorem ok_enc {x : Q3} (h : okB x = true) : Enc x (ratOf x) := by
  unfold ratOf
  rw [if_pos h]
  unfold okB at h
  simp only [Bool.and_eq_true] at h
  obtain ⟨⟨⟨h1, h2⟩, h3⟩, h4⟩ := h
  have n1 := nolB_iff.1 h1
  have n2 := nolB_iff.1 h2
  simp only [decide_eq_true_eq] at h3
  by_cases h0 : val x.num = 0
  · rw [if_pos h0] at h4
    simp at h4
    rw [h0, sq_zero]
    exact ⟨by rw [h4.2]; rfl, ⟨h0, n1⟩, ⟨h4.1, n2⟩⟩
  · rw [if_neg h0] at h4
    have hg : Nat.gcd (val x.num) (dn x) = 1 := by
      unfold dn
      split
      · simp
      · rename_i hd
        simpa [hd] using h4
    obtain ⟨e1, e2⟩ := sq_num_den (neg := x.neg) (dn_pos x) hg
    refine ⟨?_, ?_, ?_⟩
    · rw [e1]; cases x.neg <;> simp <;> omega
    · rw [e1]
      have e : (if x.neg = true then -(val x.num : Int) else (val x.num : Int)).natAbs = val x.num := by cases x.neg <;> simp
      rw [e]; exact ⟨rfl, n1⟩
    · rw [e2]
      refine ⟨?_, n2⟩
      show val x.den = _
      unfold dn
      by_cases hd : val x.den = 0
      · simp [hd]
      · simp [hd, h3]
theorem Enc.dn {x : Q3} {q : Rat} (h : Enc x q) : dn x = q.den := by
  unfold Go.Proofs.YtjmonodjnljhdaaDoor.dn
  rw [Is_val h.den]
  have := q.den_nz
  by_cases h1 : q.den = 1 <;> simp [h1, this]
theorem Enc.ok {x : Q3} {q : Rat} (h : Enc x q) : okB x = true := by
  unfold okB
  rw [nolB_iff.2 h.num.2, nolB_iff.2 h.den.2, Is_val h.num, Is_val h.den]
  have hr := q.reduced
  have hz := q.den_nz
  by_cases h1 : q.den = 1
  · simp only [h1]
    by_cases h0 : q.num = 0
    · simp [h0, h.neg]
    · simp [h0]
  · simp only [h1, if_false]
    by_cases h0 : q.num = 0
    · rw [h0] at hr
      simp at hr
      exact absurd hr h1
    · simp [h0, h1]
      exact .inr hr
theorem Enc.rat {x : Q3} {q : Rat} (h : Enc x q) : ratOf x = q := by
  unfold ratOf
  rw [if_pos h.ok, h.dn, Is_val h.num, h.neg, sq_self]
theorem Enc_iff {x : Q3} {q : Rat} : Enc x q ↔ okB x = true ∧ ratOf x = q := by
  constructor
  · intro h; exact ⟨h.ok, h.rat⟩
  · rintro ⟨h, rfl⟩; exact ok_enc h
theorem Enc.sq {x : Q3} {q : Rat} (h : Enc x q) : q = sq x.neg (val x.num) (Go.Proofs.YtjmonodjnljhdaaDoor.dn x) := by rw [h.dn, Is_val h.num, h.neg, sq_self]
theorem bad_rat {x : Q3} (h : okB x = false) : ratOf x = 0 := by unfold ratOf; rw [h]; rfl
theorem Enc_zero : Enc ⟨false, ⟨#[]⟩, ⟨#[]⟩⟩ 0 := ⟨rfl, Is_zero.2 rfl, Is_zero.2 rfl⟩
theorem Enc.zero_iff {x : Q3} {q : Rat} (h : Enc x q) : x.num = ⟨#[]⟩ ↔ q = 0 := by
  rw [← Is_zero]
  have h1 := h.num
  constructor
  · intro h2
    have : q.num.natAbs = 0 := (Is_val h1).symm.trans (Is_val h2)
    have h3 : q.num = 0 := by omega
    exact Rat.num_eq_zero.1 h3
  · rintro rfl; exact h1
/-- What 'signed' makes of coprime numbers. -/
theorem Enc_make {neg : Bool} {n d : Nat} {N D : ByteArray} (hd : d ≠ 0) (hg : Nat.gcd n d = 1) (hN : Is N n) (hD : Is D (if d = 1 then 0 else d)) : Enc ⟨neg && decide (n ≠ 0), N, D⟩ (sq neg n d) := by
  obtain ⟨e1, e2⟩ := sq_num_den (neg := neg) hd hg
  refine ⟨?_, ?_, by rw [e2]; exact hD⟩
  · rw [e1]
    show (neg && decide (n ≠ 0)) = _
    cases neg
    · simp
    · by_cases h : n = 0
      · simp [h]
      · simp [h]; omega
  · rw [e1]
    have e : (if neg = true then -(n : Int) else (n : Int)).natAbs = n := by cases neg <;> simp
    rw [e]; exact hN
/-- The lengths are at most k. -/
def fits (x : Q3) (k : Nat) : Prop := x.num.size ≤ k ∧ x.den.size ≤ k
theorem Enc.fits {x : Q3} {q : Rat} {k : Nat} (h : Enc x q) (b : Bd k q) : fits x k :=
  ⟨Is_size h.num k b.1, Is_size h.den k (by split; exact Nat.pow_pos (by omega); exact b.2)⟩
theorem fits.bd {x : Q3} {k : Nat} (h : fits x k) (hk : 1 ≤ k) : Bd k (ratOf x) := by
  unfold ratOf
  split
  · refine Bd_sq (dn_pos x) (Nat.lt_of_lt_of_le (val_lt _) (Nat.pow_le_pow_right (by omega) h.1)) ?_
    unfold dn
    split
    · exact Nat.one_lt_pow (by omega) (by omega)
    · exact Nat.lt_of_lt_of_le (val_lt _) (Nat.pow_le_pow_right (by omega) h.2)
  · exact Bd_zero.mono hk
end Go.Proofs.YtjmonodjnljhdaaDoor
