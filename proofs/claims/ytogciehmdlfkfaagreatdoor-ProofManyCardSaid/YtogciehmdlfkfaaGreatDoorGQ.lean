/-
  Several parts put together: V2, V5.
-/
import Derived.Test.YtogciehmdlfkfaaGreatDoorGP
import Derived.Test.YtogciehmdlfkfaaGreatDoorGO
import Derived.Test.YtogciehmdlfkfaaGreatDoorGG
import Derived.Test.YtogciehmdlfkfaaGreatDoorGH
/- Part V2. -/

namespace Go.Proofs.YtogciehmdlfkfaaGreatDoor
open Go.RowKit Nd

theorem rFixN (x : Q3) (p : Rat) (k : Nat) (w : World) (hx : Num x p k) (hk : k ≤ 1099511627776) :
    Calls Tryz.prog 56 #[.agg #[.bool x.neg, .string x.num, .string x.den]] w fun e w' => ∃ z, e = .returned (.agg #[.bool z.neg, .string z.num, .string z.den]) ∧ Val z p k ∧ Chg [] w w' := by
  have hb := hx.bd
  obtain rfl := hx.rat
  refine (rFix_any x w (Nat.le_trans hx.n1 hk) (Nat.le_trans hx.n2 hk)).mono ?_
  rintro e w1 ⟨z, rfl, hz, c1⟩
  exact ⟨z, rfl, ⟨hz, hb⟩, c1⟩

theorem Val.opp {x : Q3} {p : Rat} {k : Nat} (h : Val x p k) (h0 : p ≠ 0) : Val ⟨!x.neg, x.num, x.den⟩ (-p) k := by
  refine ⟨⟨?_, ?_, ?_⟩, h.bd.neg⟩
  · show (!x.neg) = _
    rw [h.enc.neg, Rat.neg_num]
    have : p.num ≠ 0 := fun hc => h0 (Rat.num_eq_zero.1 hc)
    by_cases h1 : p.num < 0
    · have h2 : ¬ -p.num < 0 := by omega
      rw [decide_eq_true h1, decide_eq_false h2]; rfl
    · have h2 : -p.num < 0 := by omega
      rw [decide_eq_false h1, decide_eq_true h2]; rfl
  · have := h.enc.num; rw [Rat.neg_num]; simpa using this
  · have := h.enc.den; simpa using this
theorem Sl.row_of {w : World} {v : Value} {L : List Nat} (h : Sl w v L) (h0 : L ≠ []) : ∃ g c, v = .slice (some ⟨g, 0, none⟩) L.length c ∧ Row 120 .u32 w g c L := by
  cases h with
  | nil => exact absurd rfl h0
  | row g c _ hr => exact ⟨g, c, rfl, hr⟩
theorem reduced_all (neg : Bool) (ga ca gb cb : Nat) (A C : List Nat) (w : World) (hA : Row 120 .u32 w ga ca A) (hC : Row 120 .u32 w gb cb C) (dA : dig 4294967296 A) (dC : dig 4294967296 C) (nA : noz A) (nC : noz C)
    (la : A.length ≤ 1099511627775) (lc : C.length ≤ 1099511627775) (zC : lv 4294967296 C ≠ 0) :
    Calls Tryz.prog 104 #[.bool neg, .slice (some ⟨ga, 0, none⟩) A.length ca, .slice (some ⟨gb, 0, none⟩) C.length cb] w fun e w' => ∃ x, e = .returned (.agg #[.bool x.neg, .string x.num, .string x.den]) ∧ Enc x (sq neg (lv 4294967296 A) (lv 4294967296 C)) ∧ Chg [] w w' := by
  by_cases h0 : lv 4294967296 A = 0
  · obtain rfl : A = [] := (lv_zero_iff (B := 4294967296) (by omega) A nA).1 h0
    refine (reduced_zero neg ga ca _ w).mono ?_
    rintro e w1 ⟨rfl, c1⟩
    exact ⟨⟨false, ⟨#[]⟩, ⟨#[]⟩⟩, rfl, by rw [h0, sq_zero]; exact Enc_zero, c1⟩
  · exact reduced_any neg ga ca gb cb A C w hA hC dA dC nA nC la lc h0 zC
/-- Two numbers over the product of their denominators. -/
theorem cross (p q : Rat) : p = sq (decide (p.num < 0)) (p.num.natAbs * q.den) (p.den * q.den) ∧ q = sq (decide (q.num < 0)) (q.num.natAbs * p.den) (p.den * q.den) := by
  refine ⟨by rw [sq_expand _ _ _ q.den_nz, sq_self], ?_⟩
  rw [Nat.mul_comm p.den q.den, sq_expand _ _ _ p.den_nz, sq_self]
theorem den2 (p q : Rat) : p.den * q.den ≠ 0 := Nat.mul_ne_zero p.den_nz q.den_nz
theorem plus_len {A C M : List Nat} {n : Nat} (nM : noz M) (dA : dig 4294967296 A) (dC : dig 4294967296 C) (la : A.length ≤ n) (lc : C.length ≤ n) (h : lv 4294967296 M = lv 4294967296 A + lv 4294967296 C) : M.length ≤ n + 1 := by
  by_cases hM : M = []
  · subst hM; simp
  · have h1 := lv_ge (B := 4294967296) M nM hM
    have h2 := Nat.lt_of_lt_of_le (lv_lt (by omega) A dA) (Nat.pow_le_pow_right (show 0 < 4294967296 by omega) la)
    have h3 := Nat.lt_of_lt_of_le (lv_lt (by omega) C dC) (Nat.pow_le_pow_right (show 0 < 4294967296 by omega) lc)
    have h4 : 4294967296 ^ (M.length - 1) < 4294967296 ^ (n + 1) := by rw [Nat.pow_succ]; omega
    have h5 := (Nat.pow_lt_pow_iff_right (show 1 < 4294967296 by omega)).1 h4
    have := List.length_pos_iff.2 hM
    omega

end Go.Proofs.YtogciehmdlfkfaaGreatDoor

/- Part V5. -/

namespace Go.Proofs.YtogciehmdlfkfaaGreatDoor
open Go.RowKit Nd
end Go.Proofs.YtogciehmdlfkfaaGreatDoor
