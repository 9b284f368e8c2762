/-
  Several parts put together: V1, V3, V4.
-/
import Derived.Test.YtogciehmdlfkfaaGreatDoorGK
/- Part V1. -/

namespace Go.Proofs.YtogciehmdlfkfaaGreatDoor
open Go.RowKit Nd

/-- x is the valid form of q, whose parts are less than 256 ^ k. -/
structure Val (x : Q3) (q : Rat) (k : Nat) : Prop where
  enc : Enc x q
  bd : Bd k q
/-- x counts as q; its parts have at most k bytes. -/
structure Num (x : Q3) (q : Rat) (k : Nat) : Prop where
  rat : ratOf x = q
  fit : fits x k
  pos : 1 ≤ k
theorem bd_pos {k : Nat} {q : Rat} (h : Bd k q) : 1 ≤ k := by
  have h2 := h.2
  have := q.den_pos
  cases k with
  | zero => simp at h2; omega
  | succ k => omega
theorem Val.num {x : Q3} {q : Rat} {k : Nat} (h : Val x q k) : Num x q k := ⟨h.enc.rat, h.enc.fits h.bd, bd_pos h.bd⟩
theorem Num.bd {x : Q3} {q : Rat} {k : Nat} (h : Num x q k) : Bd k q := by rw [← h.rat]; exact h.fit.bd h.pos
theorem Val.mono {x : Q3} {q : Rat} {k l : Nat} (h : Val x q k) (hl : k ≤ l) : Val x q l := ⟨h.enc, h.bd.mono hl⟩
theorem fits.mono {x : Q3} {k l : Nat} (h : fits x k) (hl : k ≤ l) : fits x l := ⟨Nat.le_trans h.1 hl, Nat.le_trans h.2 hl⟩
theorem Num.mono {x : Q3} {q : Rat} {k l : Nat} (h : Num x q k) (hl : k ≤ l) : Num x q l := ⟨h.rat, h.fit.mono hl, Nat.le_trans h.pos hl⟩
theorem Num.of_fits {x : Q3} {k : Nat} (h : fits x k) (hk : 1 ≤ k) : Num x (ratOf x) k := ⟨rfl, h, hk⟩
theorem Val.unique {x y : Q3} {q : Rat} {k l : Nat} (h : Val x q k) (g : Val y q l) : x = y := h.enc.unique g.enc
theorem Num.n1 {x : Q3} {q : Rat} {k : Nat} (h : Num x q k) : x.num.size ≤ k := h.fit.1
theorem Num.n2 {x : Q3} {q : Rat} {k : Nat} (h : Num x q k) : x.den.size ≤ k := h.fit.2
theorem Val.isz {x : Q3} {q : Rat} {k : Nat} (h : Val x q k) : x.num.toList.isEmpty = decide (q = 0) := by
  rw [Is_empty h.enc.num]
  by_cases h0 : q = 0
  · subst h0; rfl
  · have : q.num.natAbs ≠ 0 := by
      intro hc; exact h0 (Rat.num_eq_zero.1 (by omega))
    simp [h0, this]
theorem Val.sg {x : Q3} {q : Rat} {k : Nat} (h : Val x q k) : sg q = if x.neg then -1 else if x.num.toList.isEmpty then 0 else 1 := by
  rw [h.isz, h.enc.neg]
  unfold Nd.sg
  by_cases h1 : q < 0
  · have := (sq_num_nonneg q).2 h1
    simp [h1, this]
  · have : ¬ q.num < 0 := fun h => h1 ((sq_num_nonneg q).1 h)
    simp [h1, this]
theorem Val.nz {x : Q3} {q : Rat} {k : Nat} (h : Val x q k) (h0 : q ≠ 0) : x.num.toList.isEmpty = false := by rw [h.isz]; simp [h0]
theorem Val.zz {x : Q3} {q : Rat} {k : Nat} (h : Val x q k) (h0 : q = 0) : x.num.toList.isEmpty = true := by rw [h.isz]; simp [h0]
theorem nat0 {q : Rat} (h : q ≠ 0) : q.num.natAbs ≠ 0 := by intro hc; exact h (Rat.num_eq_zero.1 (by omega))
theorem gcd_den (q : Rat) : Nat.gcd q.den q.num.natAbs = 1 := by rw [Nat.gcd_comm]; exact q.reduced
theorem Val.n1 {x : Q3} {q : Rat} {k : Nat} (h : Val x q k) : x.num.size ≤ k := h.num.n1
theorem Val.n2 {x : Q3} {q : Rat} {k : Nat} (h : Val x q k) : x.den.size ≤ k := h.num.n2
theorem Val.neg_ne {x : Q3} {q : Rat} {k : Nat} (h : Val x q k) (hn : x.neg = true) : q.num.natAbs ≠ 0 := by
  have := h.enc.neg
  rw [hn] at this
  have h2 : q.num < 0 := by simpa using this.symm
  omega

theorem bd_flo {k : Nat} {q : Rat} (h : Bd k q) : Bd (k + 1) (flo q) := by
  have hd := q.den_pos
  have hf : (Nd.flo q).num.natAbs ≤ q.num.natAbs + 1 := by
    unfold Nd.flo
    rw [Rat.num_intCast]
    have e : q.floor = q.num / (q.den : Int) := by rw [Rat.floor_def]
    rw [e]
    have h1 := Int.ediv_mul_le q.num (show (q.den : Int) ≠ 0 by omega)
    have h2 := Int.lt_ediv_add_one_mul_self q.num (show (0 : Int) < q.den by omega)
    generalize q.num / (q.den : Int) = f at h1 h2
    generalize q.num = n at h1 h2
    have hd2 : (1 : Int) ≤ q.den := by omega
    generalize (q.den : Int) = d at h1 h2 hd2
    by_cases hf0 : 0 ≤ f
    · have : f ≤ f * d := by
        have := Int.mul_le_mul_of_nonneg_left hd2 hf0
        omega
      omega
    · have : (f + 1) * d ≤ f + 1 := by
        have := Int.mul_le_mul_of_nonpos_left (show f + 1 ≤ 0 by omega) hd2
        omega
      omega
  have hd1 : (Nd.flo q).den = 1 := by unfold Nd.flo; exact Rat.den_intCast _
  refine ⟨?_, ?_⟩
  · have h1 := h.1
    have : 256 ^ k + 1 ≤ 256 ^ (k + 1) := by
      have h0 : 0 < 256 ^ k := Nat.pow_pos (by omega)
      rw [Nat.pow_succ]; omega
    omega
  · rw [hd1]; exact Nat.one_lt_pow (by omega) (by omega)

theorem countedN (x : Q3) (p : Rat) (k : Nat) (w : World) (hx : Num x p k) (hk : k ≤ 1099511627776) :
    Calls Tryz.prog 54 #[.agg #[.bool x.neg, .string x.num, .string x.den]] w fun e w' => ∃ z, e = .returned (.agg #[.bool z.neg, .string z.num, .string z.den]) ∧ Val z p k ∧ Chg [] w w' := by
  have hb := hx.bd
  obtain rfl := hx.rat
  refine (counted_any x w (Nat.le_trans hx.n1 hk) (Nat.le_trans hx.n2 hk)).mono ?_
  rintro e w1 ⟨z, rfl, hz, c1⟩
  exact ⟨z, rfl, ⟨hz, hb⟩, c1⟩

end Go.Proofs.YtogciehmdlfkfaaGreatDoor

/- Part V3. -/

namespace Go.Proofs.YtogciehmdlfkfaaGreatDoor
open Go.RowKit Nd
set_option maxRecDepth 20000 in
set_option maxHeartbeats 1000000 in
theorem SignN (x : Q3) (p : Rat) (k : Nat) (w : World) (hx : Num x p k) (hk : k ≤ 34359738367) :
    Calls Tryz.prog 32 #[.agg #[.bool x.neg, .string x.num, .string x.den]] w fun e w' => e = .returned (.int .i64 (sg p)) ∧ Chg [] w w' := by
  have b1 := Blk3.alloc w (.bool x.neg) (.string x.num) (.string x.den) 25
  have hch : Chg [] w (w.alloc (.cells #[.bool x.neg, .string x.num, .string x.den] 25)) := (Chg.refl _ _).alloc _
  go_enter Tryz.func32, Tryz.ntmps32
  go_wp2_with fail
  obtain ⟨w0, HWw0⟩ := name_it ((w).alloc (.cells #[.bool x.neg, .string x.num, .string x.den] 25))
  rw [HWw0.out] at b1 hch ⊢
  refine (countedN x p k _ hx (by omega)).mono ?_
  rintro e w1 ⟨y, rfl, hy, c1⟩
  replace b1 := b1.keep c1 (by simp)
  replace hch := hch.then c1
  clear c1
  have HR := Lib.hid hy.sg
  clear hy hx
  obtain ⟨yn, yN, yD⟩ := y
  simp only at HR
  cases yn
  · cases hz : yN.toList.isEmpty
    · rw [hz] at HR
      have b1c0 := b1.c0
      have b1c1 := b1.c1
      have b1c2 := b1.c2
      have b1f0 := b1.f0
      have b1f1 := b1.f1
      have b1f2 := b1.f2
      have b1l := b1.lt
      go_wp2_with fail
      go_ret
      exact ⟨ret_eq (by have := HR.out; simp at this; rw [this]; rfl), hch.store3 (.inr (by omega)) _ _ _⟩
    · rw [hz] at HR
      have b1c0 := b1.c0
      have b1c1 := b1.c1
      have b1c2 := b1.c2
      have b1f0 := b1.f0
      have b1f1 := b1.f1
      have b1f2 := b1.f2
      have b1l := b1.lt
      go_wp2_with fail
      go_ret
      exact ⟨ret_eq (by have := HR.out; simp at this; rw [this]; rfl), hch.store3 (.inr (by omega)) _ _ _⟩
  · have b1c0 := b1.c0
    have b1c1 := b1.c1
    have b1c2 := b1.c2
    have b1f0 := b1.f0
    have b1f1 := b1.f1
    have b1f2 := b1.f2
    have b1l := b1.lt
    go_wp2_with fail
    go_ret
    exact ⟨ret_eq (by have := HR.out; simp at this; rw [this]; rfl), hch.store3 (.inr (by omega)) _ _ _⟩

end Go.Proofs.YtogciehmdlfkfaaGreatDoor

/- Part V4. -/

namespace Go.Proofs.YtogciehmdlfkfaaGreatDoor
open Go.RowKit Nd
/-- The lesser and the greater number. -/
def qmin (p q : Rat) : Rat := if q < p then q else p
def qmax (p q : Rat) : Rat := if p < q then q else p
theorem qo_three (p q : Rat) : (p < q ∧ qo p q = -1) ∨ (p = q ∧ qo p q = 0) ∨ (q < p ∧ qo p q = 1) := by
  by_cases h : p < q
  · exact .inl ⟨h, qo_lt h⟩
  by_cases h2 : p = q
  · exact .inr (.inl ⟨h2, qo_eq h2⟩)
  have h3 : q < p := by grind
  exact .inr (.inr ⟨h3, qo_gt h3⟩)

theorem Val.inv {x s : Q3} {q : Rat} {k : Nat} (h : Val x q k) (h0 : q ≠ 0) (hs : Enc s (sq x.neg q.den q.num.natAbs)) : Val s q⁻¹ k := by
  have hn : q.num.natAbs ≠ 0 := by intro hc; exact h0 (Rat.num_eq_zero.1 (by omega))
  have e : sq x.neg q.den q.num.natAbs = q⁻¹ := by rw [sq_inv q.den_nz hn, h.enc.sq']
  rw [e] at hs
  exact ⟨hs, by rw [← e]; exact Bd_sq hn h.bd.2 h.bd.1⟩

end Go.Proofs.YtogciehmdlfkfaaGreatDoor
