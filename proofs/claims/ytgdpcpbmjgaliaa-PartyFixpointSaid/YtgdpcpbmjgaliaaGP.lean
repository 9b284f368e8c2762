/-
  Several parts put together: V1, V3, V4.
-/
import Derived.Test.YtgdpcpbmjgaliaaGK
/- Part V1. -/

namespace Go.Proofs.Ytgdpcpbmjgaliaa
open Go.RowKit Nd

/-- x is the valid form of q, whose parts are less than 256 ^ k. -/
structure Val (x : Q3) (q : Rat) (k : Nat) : Prop where
  enc : Enc x q
  bd : Bd k q
/-- x counts as q; its parts have at most k bytes. -/
structure Num (x : Q3) (q : Rat) (k : Nat) : Prop where
  rat : ratOf x = q
  fit : fits x k
  pos : 1 ≤ k
theorem bd_pos {k : Nat} {q : Rat} (h : Bd k q) : 1 ≤ k := by
  have h2 := h.2
  have := q.den_pos
  cases k with
  | zero => simp at h2; omega
  | succ k => omega
theorem Val.num {x : Q3} {q : Rat} {k : Nat} (h : Val x q k) : Num x q k := ⟨h.enc.rat, h.enc.fits h.bd, bd_pos h.bd⟩
theorem Num.bd {x : Q3} {q : Rat} {k : Nat} (h : Num x q k) : Bd k q := by rw [← h.rat]; exact h.fit.bd h.pos
theorem Val.mono {x : Q3} {q : Rat} {k l : Nat} (h : Val x q k) (hl : k ≤ l) : Val x q l := ⟨h.enc, h.bd.mono hl⟩
theorem fits.mono {x : Q3} {k l : Nat} (h : fits x k) (hl : k ≤ l) : fits x l := ⟨Nat.le_trans h.1 hl, Nat.le_trans h.2 hl⟩
theorem Num.mono {x : Q3} {q : Rat} {k l : Nat} (h : Num x q k) (hl : k ≤ l) : Num x q l := ⟨h.rat, h.fit.mono hl, Nat.le_trans h.pos hl⟩
theorem Num.of_fits {x : Q3} {k : Nat} (h : fits x k) (hk : 1 ≤ k) : Num x (ratOf x) k := ⟨rfl, h, hk⟩
theorem Val.unique {x y : Q3} {q : Rat} {k l : Nat} (h : Val x q k) (g : Val y q l) : x = y := h.enc.unique g.enc
theorem Num.n1 {x : Q3} {q : Rat} {k : Nat} (h : Num x q k) : x.num.size ≤ k := h.fit.1
theorem Num.n2 {x : Q3} {q : Rat} {k : Nat} (h : Num x q k) : x.den.size ≤ k := h.fit.2
theorem Val.isz {x : Q3} {q : Rat} {k : Nat} (h : Val x q k) : x.num.toList.isEmpty = decide (q = 0) := by
  rw [Is_empty h.enc.num]
  by_cases h0 : q = 0
  · subst h0; rfl
  · have : q.num.natAbs ≠ 0 := by
      intro hc; exact h0 (Rat.num_eq_zero.1 (by omega))
    simp [h0, this]
theorem Val.sg {x : Q3} {q : Rat} {k : Nat} (h : Val x q k) : sg q = if x.neg then -1 else if x.num.toList.isEmpty then 0 else 1 := by
  rw [h.isz, h.enc.neg]
  unfold Nd.sg
  by_cases h1 : q < 0
  · have := (sq_num_nonneg q).2 h1
    simp [h1, this]
  · have : ¬ q.num < 0 := fun h => h1 ((sq_num_nonneg q).1 h)
    simp [h1, this]
theorem Val.nz {x : Q3} {q : Rat} {k : Nat} (h : Val x q k) (h0 : q ≠ 0) : x.num.toList.isEmpty = false := by rw [h.isz]; simp [h0]
theorem Val.zz {x : Q3} {q : Rat} {k : Nat} (h : Val x q k) (h0 : q = 0) : x.num.toList.isEmpty = true := by rw [h.isz]; simp [h0]
theorem nat0 {q : Rat} (h : q ≠ 0) : q.num.natAbs ≠ 0 := by intro hc; exact h (Rat.num_eq_zero.1 (by omega))
theorem gcd_den (q : Rat) : Nat.gcd q.den q.num.natAbs = 1 := by rw [Nat.gcd_comm]; exact q.reduced
theorem Val.n1 {x : Q3} {q : Rat} {k : Nat} (h : Val x q k) : x.num.size ≤ k := h.num.n1
theorem Val.n2 {x : Q3} {q : Rat} {k : Nat} (h : Val x q k) : x.den.size ≤ k := h.num.n2
theorem Val.neg_ne {x : Q3} {q : Rat} {k : Nat} (h : Val x q k) (hn : x.neg = true) : q.num.natAbs ≠ 0 := by
  have := h.enc.neg
  rw [hn] at this
  have h2 : q.num < 0 := by simpa using this.symm
  omega

theorem AddN (x y : Q3) (p q : Rat) (k l : Nat) (w : World) (hx : Num x p k) (hy : Num y q l) (hk : k + l ≤ 34359738367) :
    Calls Try.prog 46 #[.agg #[.bool x.neg, .string x.num, .string x.den], .agg #[.bool y.neg, .string y.num, .string y.den]] w fun e w' => ∃ z, e = .returned (.agg #[.bool z.neg, .string z.num, .string z.den]) ∧ Val z (p + q) (k + l + 1) ∧ Chg [] w w' := by
  have hb := hx.bd
  have hc := hy.bd
  have hp := hx.pos
  obtain rfl := hx.rat
  obtain rfl := hy.rat
  refine (Add_any x y (k + l) w (hx.fit.mono (by omega)) (hy.fit.mono (by omega)) (by omega) (by omega)).mono ?_
  rintro e w1 ⟨z, rfl, hz, c1⟩
  exact ⟨z, rfl, ⟨hz, hb.add hc⟩, c1⟩

theorem bd_flo {k : Nat} {q : Rat} (h : Bd k q) : Bd (k + 1) (flo q) := by
  have hd := q.den_pos
  have hf : (Nd.flo q).num.natAbs ≤ q.num.natAbs + 1 := by
    unfold Nd.flo
    rw [Rat.num_intCast]
    have e : q.floor = q.num / (q.den : Int) := by rw [Rat.floor_def]
    rw [e]
    have h1 := Int.ediv_mul_le q.num (show (q.den : Int) ≠ 0 by omega)
    have h2 := Int.lt_ediv_add_one_mul_self q.num (show (0 : Int) < q.den by omega)
    generalize q.num / (q.den : Int) = f at h1 h2
    generalize q.num = n at h1 h2
    have hd2 : (1 : Int) ≤ q.den := by omega
    generalize (q.den : Int) = d at h1 h2 hd2
    by_cases hf0 : 0 ≤ f
    · have : f ≤ f * d := by
        have := Int.mul_le_mul_of_nonneg_left hd2 hf0
        omega
      omega
    · have : (f + 1) * d ≤ f + 1 := by
        have := Int.mul_le_mul_of_nonpos_left (show f + 1 ≤ 0 by omega) hd2
        omega
      omega
  have hd1 : (Nd.flo q).den = 1 := by unfold Nd.flo; exact Rat.den_intCast _
  refine ⟨?_, ?_⟩
  · have h1 := h.1
    have : 256 ^ k + 1 ≤ 256 ^ (k + 1) := by
      have h0 : 0 < 256 ^ k := Nat.pow_pos (by omega)
      rw [Nat.pow_succ]; omega
    omega
  · rw [hd1]; exact Nat.one_lt_pow (by omega) (by omega)

theorem countedN (x : Q3) (p : Rat) (k : Nat) (w : World) (hx : Num x p k) (hk : k ≤ 1099511627776) :
    Calls Try.prog 45 #[.agg #[.bool x.neg, .string x.num, .string x.den]] w fun e w' => ∃ z, e = .returned (.agg #[.bool z.neg, .string z.num, .string z.den]) ∧ Val z p k ∧ Chg [] w w' := by
  have hb := hx.bd
  obtain rfl := hx.rat
  refine (counted_any x w (Nat.le_trans hx.n1 hk) (Nat.le_trans hx.n2 hk)).mono ?_
  rintro e w1 ⟨z, rfl, hz, c1⟩
  exact ⟨z, rfl, ⟨hz, hb⟩, c1⟩

end Go.Proofs.Ytgdpcpbmjgaliaa

/- Part V3. -/

namespace Go.Proofs.Ytgdpcpbmjgaliaa
open Go.RowKit Nd
set_option maxRecDepth 20000 in
set_option maxHeartbeats 1000000 in
theorem qorder_any (x y : Q3) (p q : Rat) (k l : Nat) (w : World) (hx : Val x p k) (hy : Val y q l) (hk : k + l ≤ 34359738367) :
    Calls Try.prog 44 #[.agg #[.bool x.neg, .string x.num, .string x.den], .agg #[.bool y.neg, .string y.num, .string y.den]] w fun e w' => e = .returned (.int .i64 (qo p q)) ∧ Chg [] w w' := by
  have HX := Lib.hid hx
  have HY := Lib.hid hy
  clear hx hy
  obtain ⟨xn, xN, xD⟩ := x
  obtain ⟨yn, yN, yD⟩ := y
  obtain ⟨b1, b2, hch⟩ := box2 w (⟨xn, xN, xD⟩ : Q3) (⟨yn, yN, yD⟩ : Q3) 33
  simp only at b1 b2 hch
  cases xn <;> cases yn
  · go_enter Try.func44, Try.ntmps44
    go_wp2_with fail
    obtain ⟨w0, HWw0⟩ := name_it ((w.alloc (.cells #[.bool false, .string xN, .string xD] 33)).alloc (.cells #[.bool false, .string yN, .string yD] 33))
    rw [HWw0.out] at b1 b2 hch ⊢
    refine (qcommon_any ⟨false, xN, xD⟩ ⟨false, yN, yD⟩ p q (k + l) _ HX.out.enc HY.out.enc (HX.out.bd.mono (by omega)) (HY.out.bd.mono (by omega)) (by omega)).mono ?_
    rintro e w1 ⟨X, Y, D, n, m, d, rfl, hX, hY, hD, hdz, e1, e2, lx, ly, ld, c1⟩
    replace b1 := b1.keep c1 (by simp)
    replace b2 := b2.keep c1 (by simp)
    replace hch := hch.then c1
    clear c1
    have zx : X.size ≤ 1099511627776 := Nat.le_trans (Is_size hX _ lx) (by omega)
    have zy : Y.size ≤ 1099511627776 := Nat.le_trans (Is_size hY _ ly) (by omega)
    have hr : qo p q = ord n m := by
      rw [← e1, ← e2]
      exact qo_same hdz
    rw [← Is_val hX, ← Is_val hY] at hr
    have HR := Lib.hid hr
    clear hr hX hY hD hdz e1 e2 lx ly ld
    have b1c0 := b1.c0
    have b1c1 := b1.c1
    have b1c2 := b1.c2
    have b1f0 := b1.f0
    have b1f1 := b1.f1
    have b1f2 := b1.f2
    have b1l := b1.lt
    have b2c0 := b2.c0
    have b2c1 := b2.c1
    have b2c2 := b2.c2
    have b2f0 := b2.f0
    have b2f1 := b2.f1
    have b2f2 := b2.f2
    have b2l := b2.lt
    go_wp2_with fail
    refine (compare_any X Y _ zx zy).mono ?_
    rintro e _ ⟨rfl, rfl⟩
    go_wp2_with fail
    go_ret
    exact ⟨ret_eq (by rw [HR.out]; rfl), hch⟩
  · have hr : qo p q = 1 := by
      rw [← HX.out.enc.sq', ← HY.out.enc.sq']
      exact qo_pos_neg p.den_nz q.den_nz (HY.out.neg_ne rfl)
    have HR := Lib.hid hr
    clear hr
    go_enter Try.func44, Try.ntmps44
    go_wp2_with fail
    go_ret
    exact ⟨ret_eq (by rw [HR.out]; rfl), hch⟩
  · have hr : qo p q = -1 := by
      rw [← HX.out.enc.sq', ← HY.out.enc.sq']
      exact qo_neg_pos p.den_nz q.den_nz (HX.out.neg_ne rfl)
    have HR := Lib.hid hr
    clear hr
    go_enter Try.func44, Try.ntmps44
    go_wp2_with fail
    go_ret
    exact ⟨ret_eq (by rw [HR.out]; rfl), hch⟩
  · go_enter Try.func44, Try.ntmps44
    go_wp2_with fail
    obtain ⟨w0, HWw0⟩ := name_it ((w.alloc (.cells #[.bool true, .string xN, .string xD] 33)).alloc (.cells #[.bool true, .string yN, .string yD] 33))
    rw [HWw0.out] at b1 b2 hch ⊢
    refine (qcommon_any ⟨true, xN, xD⟩ ⟨true, yN, yD⟩ p q (k + l) _ HX.out.enc HY.out.enc (HX.out.bd.mono (by omega)) (HY.out.bd.mono (by omega)) (by omega)).mono ?_
    rintro e w1 ⟨X, Y, D, n, m, d, rfl, hX, hY, hD, hdz, e1, e2, lx, ly, ld, c1⟩
    replace b1 := b1.keep c1 (by simp)
    replace b2 := b2.keep c1 (by simp)
    replace hch := hch.then c1
    clear c1
    have zx : X.size ≤ 1099511627776 := Nat.le_trans (Is_size hX _ lx) (by omega)
    have zy : Y.size ≤ 1099511627776 := Nat.le_trans (Is_size hY _ ly) (by omega)
    have hr : qo p q = ord m n := by
      rw [← e1, ← e2]
      exact qo_same_neg hdz
    rw [← Is_val hX, ← Is_val hY] at hr
    have HR := Lib.hid hr
    clear hr hX hY hD hdz e1 e2 lx ly ld
    have b1c0 := b1.c0
    have b1c1 := b1.c1
    have b1c2 := b1.c2
    have b1f0 := b1.f0
    have b1f1 := b1.f1
    have b1f2 := b1.f2
    have b1l := b1.lt
    have b2c0 := b2.c0
    have b2c1 := b2.c1
    have b2c2 := b2.c2
    have b2f0 := b2.f0
    have b2f1 := b2.f1
    have b2f2 := b2.f2
    have b2l := b2.lt
    go_wp2_with fail
    refine (compare_any Y X _ zy zx).mono ?_
    rintro e _ ⟨rfl, rfl⟩
    go_wp2_with fail
    go_ret
    exact ⟨ret_eq (by rw [HR.out]; rfl), hch⟩

set_option maxRecDepth 20000 in
set_option maxHeartbeats 1000000 in
theorem SignN (x : Q3) (p : Rat) (k : Nat) (w : World) (hx : Num x p k) (hk : k ≤ 34359738367) :
    Calls Try.prog 65 #[.agg #[.bool x.neg, .string x.num, .string x.den]] w fun e w' => e = .returned (.int .i64 (sg p)) ∧ Chg [] w w' := by
  have b1 := Blk3.alloc w (.bool x.neg) (.string x.num) (.string x.den) 33
  have hch : Chg [] w (w.alloc (.cells #[.bool x.neg, .string x.num, .string x.den] 33)) := (Chg.refl _ _).alloc _
  go_enter Try.func65, Try.ntmps65
  go_wp2_with fail
  obtain ⟨w0, HWw0⟩ := name_it ((w).alloc (.cells #[.bool x.neg, .string x.num, .string x.den] 33))
  rw [HWw0.out] at b1 hch ⊢
  refine (countedN x p k _ hx (by omega)).mono ?_
  rintro e w1 ⟨y, rfl, hy, c1⟩
  replace b1 := b1.keep c1 (by simp)
  replace hch := hch.then c1
  clear c1
  have HR := Lib.hid hy.sg
  clear hy hx
  obtain ⟨yn, yN, yD⟩ := y
  simp only at HR
  cases yn
  · cases hz : yN.toList.isEmpty
    · rw [hz] at HR
      have b1c0 := b1.c0
      have b1c1 := b1.c1
      have b1c2 := b1.c2
      have b1f0 := b1.f0
      have b1f1 := b1.f1
      have b1f2 := b1.f2
      have b1l := b1.lt
      go_wp2_with fail
      go_ret
      exact ⟨ret_eq (by have := HR.out; simp at this; rw [this]; rfl), hch.store3 (.inr (by omega)) _ _ _⟩
    · rw [hz] at HR
      have b1c0 := b1.c0
      have b1c1 := b1.c1
      have b1c2 := b1.c2
      have b1f0 := b1.f0
      have b1f1 := b1.f1
      have b1f2 := b1.f2
      have b1l := b1.lt
      go_wp2_with fail
      go_ret
      exact ⟨ret_eq (by have := HR.out; simp at this; rw [this]; rfl), hch.store3 (.inr (by omega)) _ _ _⟩
  · have b1c0 := b1.c0
    have b1c1 := b1.c1
    have b1c2 := b1.c2
    have b1f0 := b1.f0
    have b1f1 := b1.f1
    have b1f2 := b1.f2
    have b1l := b1.lt
    go_wp2_with fail
    go_ret
    exact ⟨ret_eq (by have := HR.out; simp at this; rw [this]; rfl), hch.store3 (.inr (by omega)) _ _ _⟩

set_option maxRecDepth 20000 in
set_option maxHeartbeats 1000000 in
theorem CompareN (x y : Q3) (p q : Rat) (k l : Nat) (w : World) (hx : Num x p k) (hy : Num y q l) (hk : k + l ≤ 34359738367) :
    Calls Try.prog 27 #[.agg #[.bool x.neg, .string x.num, .string x.den], .agg #[.bool y.neg, .string y.num, .string y.den]] w fun e w' => e = .returned (.int .i64 (qo p q)) ∧ Chg [] w w' := by
  obtain ⟨b1, b2, hch⟩ := box2 w x y 33
  go_enter Try.func27, Try.ntmps27
  go_wp2_with fail
  obtain ⟨w0, HWw0⟩ := name_it (((w).alloc (.cells #[.bool x.neg, .string x.num, .string x.den] 33)).alloc (.cells #[.bool y.neg, .string y.num, .string y.den] 33))
  rw [HWw0.out] at b1 b2 hch ⊢
  replace b1 := b1.keep ((Chg.refl [] _).drew) (by simp)
  replace b2 := b2.keep ((Chg.refl [] _).drew) (by simp)
  replace hch := hch.drew
  go_region_held3 (fun w' => w'.cell? ⟨w.heap.size, 0, none⟩ = some (.bool x.neg) ∧ w'.cell? ⟨w.heap.size, 1, none⟩ = some (.string x.num) ∧ w'.cell? ⟨w.heap.size, 2, none⟩ = some (.string x.den) ∧ w'.cell? ⟨w.heap.size + 1, 0, none⟩ = some (.bool y.neg) ∧ w'.cell? ⟨w.heap.size + 1, 1, none⟩ = some (.string y.num) ∧ w'.cell? ⟨w.heap.size + 1, 2, none⟩ = some (.string y.den)) (first | exact ⟨b1.c0, b1.c1, b1.c2, b2.c0, b2.c1, b2.c2⟩ | exact ⟨by simp [go_sem, b1.c0], by simp [go_sem, b1.c1], by simp [go_sem, b1.c2], by simp [go_sem, b2.c0], by simp [go_sem, b2.c1], by simp [go_sem, b2.c2]⟩) (first
      | (go_at_call 45
         (with_reducible refine (countedN x p k _ hx (by omega)).mono ?_)
         rintro e w1 ⟨u, rfl, hu, c1⟩
         replace b1 := b1.keep c1 (by simp)
         replace b2 := b2.keep c1 (by simp)
         replace hch := hch.then c1
         clear c1)
      | (go_at_call 45
         (with_reducible refine (countedN y q l _ hy (by omega)).mono ?_)
         rintro e w1 ⟨v, rfl, hv, c1⟩
         replace b1 := b1.keep c1 (by simp)
         replace b2 := b2.keep c1 (by simp)
         replace hch := hch.then c1
         clear c1)
      | (go_at_call 44
         (with_reducible refine (qorder_any u v p q k l _ hu hv (by omega)).mono ?_)
         rintro e w1 ⟨rfl, c1⟩
         replace b1 := b1.keep c1 (by simp)
         replace b2 := b2.keep c1 (by simp)
         replace hch := hch.then c1
         clear c1))
  all_goals
    go_wp2_with fail
    go_ret
    exact ⟨rfl, hch⟩

end Go.Proofs.Ytgdpcpbmjgaliaa

/- Part V4. -/

namespace Go.Proofs.Ytgdpcpbmjgaliaa
open Go.RowKit Nd
/-- The lesser and the greater number. -/
def qmin (p q : Rat) : Rat := if q < p then q else p
def qmax (p q : Rat) : Rat := if p < q then q else p
theorem qo_three (p q : Rat) : (p < q ∧ qo p q = -1) ∨ (p = q ∧ qo p q = 0) ∨ (q < p ∧ qo p q = 1) := by
  by_cases h : p < q
  · exact .inl ⟨h, qo_lt h⟩
  by_cases h2 : p = q
  · exact .inr (.inl ⟨h2, qo_eq h2⟩)
  have h3 : q < p := by grind
  exact .inr (.inr ⟨h3, qo_gt h3⟩)

theorem Val.inv {x s : Q3} {q : Rat} {k : Nat} (h : Val x q k) (h0 : q ≠ 0) (hs : Enc s (sq x.neg q.den q.num.natAbs)) : Val s q⁻¹ k := by
  have hn : q.num.natAbs ≠ 0 := by intro hc; exact h0 (Rat.num_eq_zero.1 (by omega))
  have e : sq x.neg q.den q.num.natAbs = q⁻¹ := by rw [sq_inv q.den_nz hn, h.enc.sq']
  rw [e] at hs
  exact ⟨hs, by rw [← e]; exact Bd_sq hn h.bd.2 h.bd.1⟩

end Go.Proofs.Ytgdpcpbmjgaliaa
