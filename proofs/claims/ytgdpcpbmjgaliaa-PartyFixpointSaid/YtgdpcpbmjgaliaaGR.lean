/-
  Several parts put together: V6, V7.
-/
import Derived.Test.YtgdpcpbmjgaliaaGQ
/- Part V6. -/

namespace Go.Proofs.Ytgdpcpbmjgaliaa
open Go.RowKit Nd
set_option maxRecDepth 20000 in
set_option maxHeartbeats 1000000 in
theorem rMinus_any (x y : Q3) (p q : Rat) (k l : Nat) (w : World) (hx : Val x p k) (hy : Val y q l) (hk : k + l ≤ 34359738367) :
    Calls Try.prog 53 #[.agg #[.bool x.neg, .string x.num, .string x.den], .agg #[.bool y.neg, .string y.num, .string y.den]] w fun e w' => ∃ z, e = .returned (.agg #[.bool z.neg, .string z.num, .string z.den]) ∧ Val z (p - q) (k + l + 1) ∧ Chg [] w w' := by
  obtain ⟨b1, b2, b3, hch⟩ := box3 w x y 33
  go_enter Try.func53, Try.ntmps53
  go_wp2_with fail
  obtain ⟨w0, HWw0⟩ := name_it ((((w).alloc (.cells #[.bool x.neg, .string x.num, .string x.den] 33)).alloc (.cells #[.bool y.neg, .string y.num, .string y.den] 33)).alloc (.cells #[.bool false, .string ⟨#[]⟩, .string ⟨#[]⟩] 33))
  rw [HWw0.out] at b1 b2 b3 hch ⊢
  replace b1 := b1.keep ((Chg.refl [] _).drew) (by simp)
  replace b2 := b2.keep ((Chg.refl [] _).drew) (by simp)
  replace b3 := b3.keep ((Chg.refl [] _).drew) (by simp)
  replace hch := hch.drew
  go_region_held3 (fun w' => w'.cell? ⟨w.heap.size, 0, none⟩ = some (.bool x.neg) ∧ w'.cell? ⟨w.heap.size, 1, none⟩ = some (.string x.num) ∧ w'.cell? ⟨w.heap.size, 2, none⟩ = some (.string x.den) ∧ w'.cell? ⟨w.heap.size + 1, 0, none⟩ = some (.bool y.neg) ∧ w'.cell? ⟨w.heap.size + 1, 1, none⟩ = some (.string y.num) ∧ w'.cell? ⟨w.heap.size + 1, 2, none⟩ = some (.string y.den)) (first | exact ⟨b1.c0, b1.c1, b1.c2, b2.c0, b2.c1, b2.c2⟩ | exact ⟨by simp [go_sem, b1.c0], by simp [go_sem, b1.c1], by simp [go_sem, b1.c2], by simp [go_sem, b2.c0], by simp [go_sem, b2.c1], by simp [go_sem, b2.c2]⟩) (first
      | (go_at_call 71
         (with_reducible refine (rOpposite_any y q l _ hy).mono ?_)
         rintro e w1 ⟨v, rfl, hv, c1⟩
         replace b1 := b1.keep c1 (by simp)
         replace b2 := b2.keep c1 (by simp)
         replace b3 := b3.keep c1 (by simp)
         replace hch := hch.then c1
         clear c1)
      | (go_at_call 54
         (with_reducible refine (rPlus_any x v p (-q) k l _ hx hv hk).mono ?_)
         rintro e w1 ⟨z, rfl, hz, c1⟩
         replace b1 := b1.keep c1 (by simp)
         replace b2 := b2.keep c1 (by simp)
         replace b3 := b3.keep c1 (by simp)
         replace hch := hch.then c1
         rw [← Rat.sub_eq_add_neg] at hz
         have b3c0 := b3.c0
         have b3c1 := b3.c1
         have b3c2 := b3.c2
         have b3f0 := b3.f0
         have b3f1 := b3.f1
         have b3f2 := b3.f2
         clear c1))
  all_goals
    go_wp2_with fail
    have S := b3.store (.bool z.neg) (.string z.num) (.string z.den)
    exact bodyPost_ret (v := .agg #[.bool z.neg, .string z.num, .string z.den]) (by simp [results, Try.results53, go_sem, S.c0, S.c1, S.c2]) rfl ⟨z, rfl, hz, hch.store3 (.inr (by omega)) _ _ _⟩

theorem sq_val2 {x y : Q3} {p q : Rat} {k l : Nat} (hx : Val x p k) (hy : Val y q l) : sq (x.neg != y.neg) (p.num.natAbs * q.num.natAbs) (p.den * q.den) = p * q := by
  rw [← sq_prod, hx.enc.neg, hy.enc.neg, sq_self, sq_self]
theorem sq_val3 {x y : Q3} {p q : Rat} {k l : Nat} (hx : Val x p k) (hy : Val y q l) (h0 : q ≠ 0) : sq (x.neg != y.neg) (p.num.natAbs * q.den) (p.den * q.num.natAbs) = p / q := by
  rw [sq_div _ _ (nat0 h0) q.den_nz, hx.enc.neg, hy.enc.neg, sq_self, sq_self]
theorem bd_div {p q : Rat} {k l : Nat} (hp : Bd k p) (hq : Bd l q) (h0 : q ≠ 0) : Bd (k + l) (p / q) := by
  have hn := nat0 h0
  have e : q⁻¹ = sq (decide (q.num < 0)) q.den q.num.natAbs := by rw [sq_inv q.den_nz hn, sq_self]
  have hb : Bd l q⁻¹ := by rw [e]; exact Bd_sq hn hq.2 hq.1
  rw [Rat.div_def]
  exact hp.mul hb

end Go.Proofs.Ytgdpcpbmjgaliaa

/- Part V7. -/

namespace Go.Proofs.Ytgdpcpbmjgaliaa
open Go.RowKit Nd
set_option maxRecDepth 20000 in
set_option maxHeartbeats 1000000 in
theorem rSignum_any (x : Q3) (p : Rat) (k : Nat) (w : World) (hx : Val x p k) :
    Calls Try.prog 51 #[.agg #[.bool x.neg, .string x.num, .string x.den]] w fun e w' => e = .returned (.int .i64 (sg p)) ∧ Chg [] w w' := by
  have b1 := Blk3.alloc w (.bool x.neg) (.string x.num) (.string x.den) 33
  have hch : Chg [] w (w.alloc (.cells #[.bool x.neg, .string x.num, .string x.den] 33)) := (Chg.refl _ _).alloc _
  have HR := Lib.hid hx.sg
  have hz : x.num.toList.isEmpty = true → x.neg = false := by
    intro h
    have h0 : p = 0 := by rw [hx.isz] at h; simpa using h
    rw [hx.enc.neg, h0]; rfl
  clear hx
  obtain ⟨xn, xN, xD⟩ := x
  simp only at HR b1 hch hz
  cases he : xN.toList.isEmpty
  · rw [he] at HR
    clear hz
    cases xn
    · go_enter Try.func51, Try.ntmps51
      go_wp2_with fail
      go_ret
      exact ⟨ret_eq (by have := HR.out; simp at this; rw [this]; rfl), (Chg.refl _ _).alloc _⟩
    · go_enter Try.func51, Try.ntmps51
      go_wp2_with fail
      go_ret
      exact ⟨ret_eq (by have := HR.out; simp at this; rw [this]; rfl), (Chg.refl _ _).alloc _⟩
  · rw [he] at HR
    obtain rfl := hz he
    clear hz
    go_enter Try.func51, Try.ntmps51
    go_wp2_with fail
    go_ret
    exact ⟨ret_eq (by have := HR.out; simp at this; rw [this]; rfl), (Chg.refl _ _).alloc _⟩

theorem sg_lt (p q : Rat) : decide (sg (p - q) < 0) = decide (p < q) := by
  have h : sg (p - q) < 0 ↔ p < q := by
    unfold sg
    by_cases h : p < q
    · have : p - q < 0 := by grind
      simp [h, this]
    · have : ¬ p - q < 0 := by grind
      rw [if_neg this]
      split <;> simp [h]
  simp [h]

set_option maxRecDepth 20000 in
set_option maxHeartbeats 1000000 in
theorem rLess_any (x y : Q3) (p q : Rat) (k l : Nat) (w : World) (hx : Val x p k) (hy : Val y q l) (hk : k + l ≤ 34359738367) :
    Calls Try.prog 32 #[.agg #[.bool x.neg, .string x.num, .string x.den], .agg #[.bool y.neg, .string y.num, .string y.den]] w fun e w' => e = .returned (.bool (decide (p < q))) ∧ Chg [] w w' := by
  rw [← sg_lt]
  obtain ⟨b1, b2, hch⟩ := box2 w x y 33
  go_enter Try.func32, Try.ntmps32
  go_wp2_with fail
  obtain ⟨w0, HWw0⟩ := name_it (((w).alloc (.cells #[.bool x.neg, .string x.num, .string x.den] 33)).alloc (.cells #[.bool y.neg, .string y.num, .string y.den] 33))
  rw [HWw0.out] at b1 b2 hch ⊢
  refine (rMinus_any x y p q k l _ hx hy hk).mono ?_
  rintro e w1 ⟨z, rfl, hz, c1⟩
  replace b1 := b1.keep c1 (by simp)
  replace b2 := b2.keep c1 (by simp)
  replace hch := hch.then c1
  clear c1
  have b1c0 := b1.c0
  have b1c1 := b1.c1
  have b1c2 := b1.c2
  have b1f0 := b1.f0
  have b1f1 := b1.f1
  have b1f2 := b1.f2
  have b1l := b1.lt
  have b2c0 := b2.c0
  have b2c1 := b2.c1
  have b2c2 := b2.c2
  have b2f0 := b2.f0
  have b2f1 := b2.f1
  have b2f2 := b2.f2
  have b2l := b2.lt
  go_wp2_with fail
  refine (rSignum_any z (p - q) _ _ hz).mono ?_
  rintro e w1 ⟨rfl, c1⟩
  clear b1c0 b1f0 b1c1 b1f1 b1c2 b1f2 b1l b2c0 b2f0 b2c1 b2f1 b2c2 b2f2 b2l
  replace b1 := b1.keep c1 (by simp)
  replace b2 := b2.keep c1 (by simp)
  replace hch := hch.then c1
  clear c1
  have b1c0 := b1.c0
  have b1c1 := b1.c1
  have b1c2 := b1.c2
  have b1f0 := b1.f0
  have b1f1 := b1.f1
  have b1f2 := b1.f2
  have b1l := b1.lt
  have b2c0 := b2.c0
  have b2c1 := b2.c1
  have b2c2 := b2.c2
  have b2f0 := b2.f0
  have b2f1 := b2.f1
  have b2f2 := b2.f2
  have b2l := b2.lt
  go_wp2_with fail
  go_ret
  exact ⟨rfl, hch⟩

end Go.Proofs.Ytgdpcpbmjgaliaa
