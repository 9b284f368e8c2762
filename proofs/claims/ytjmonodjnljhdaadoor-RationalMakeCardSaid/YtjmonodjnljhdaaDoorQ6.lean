/-
  Walks of package rational: the exported operations.
-/
import Derived.Test.YtjmonodjnljhdaaDoorQ5
namespace Go.Proofs.YtjmonodjnljhdaaDoor
open Go.RowKit Nd

set_option maxRecDepth 20000 in
set_option maxHeartbeats 1000000 in
theorem Add_any (a b : Q3) (k : Nat) (w : World) (fa : fits a k) (fb : fits b k) (hk1 : 1 ≤ k) (hk : k ≤ 68719476736) :
    Calls Tryd.prog 24 #[.agg #[.bool a.neg, .string a.num, .string a.den], .agg #[.bool b.neg, .string b.num, .string b.den]] w fun e w' => ∃ z, e = .returned (.agg #[.bool z.neg, .string z.num, .string z.den]) ∧ Enc z (ratOf a + ratOf b) ∧ Chg [] w w' := by
  obtain ⟨b1, b2, b3, hch⟩ := box3 w a b 29
  have BA := Lib.hid (fa.bd (by omega) : Bd k (ratOf a))
  have BB := Lib.hid (fb.bd (by omega) : Bd k (ratOf b))
  obtain ⟨fa1, fa2⟩ := fa
  obtain ⟨fb1, fb2⟩ := fb
  obtain ⟨p, HP⟩ := name_it (ratOf a)
  obtain ⟨q, HQ⟩ := name_it (ratOf b)
  rw [HP.out] at BA
  rw [HQ.out] at BB
  rw [HP.out, HQ.out]
  go_enter Tryd.func24, Tryd.ntmps24
  go_wp2_with fail
  obtain ⟨w0, HW0⟩ := name_it (((w.alloc (.cells #[.bool a.neg, .string a.num, .string a.den] 29)).alloc (.cells #[.bool b.neg, .string b.num, .string b.den] 29)).alloc (.cells #[.bool false, .string ⟨#[]⟩, .string ⟨#[]⟩] 29))
  rw [HW0.out] at b1 b2 b3 hch ⊢
  replace b1 := b1.keep ((Chg.refl [] _).drew) (by simp)
  replace b2 := b2.keep ((Chg.refl [] _).drew) (by simp)
  replace b3 := b3.keep ((Chg.refl [] _).drew) (by simp)
  replace hch := hch.drew
  go_region_held3 (fun w' => w'.cell? ⟨w.heap.size, 0, none⟩ = some (.bool a.neg) ∧ w'.cell? ⟨w.heap.size, 1, none⟩ = some (.string a.num) ∧ w'.cell? ⟨w.heap.size, 2, none⟩ = some (.string a.den) ∧ w'.cell? ⟨(w.heap.size + 1), 0, none⟩ = some (.bool b.neg) ∧ w'.cell? ⟨(w.heap.size + 1), 1, none⟩ = some (.string b.num) ∧ w'.cell? ⟨(w.heap.size + 1), 2, none⟩ = some (.string b.den)) (first | exact ⟨b1.c0, b1.c1, b1.c2, b2.c0, b2.c1, b2.c2⟩ | exact ⟨by simp [go_sem, b1.c0], by simp [go_sem, b1.c1], by simp [go_sem, b1.c2], by simp [go_sem, b2.c0], by simp [go_sem, b2.c1], by simp [go_sem, b2.c2]⟩) (first
      | (go_at_call 52
         (with_reducible refine (counted_any a _ (by omega) (by omega)).mono ?_)
         rintro e w1 ⟨ya, rfl, hy, c1⟩
         replace b1 := b1.keep c1 (by simp)
         replace b2 := b2.keep c1 (by simp)
         replace b3 := b3.keep c1 (by simp)
         replace hch := hch.then c1
         rw [HP.out] at hy
         have HYa := Lib.hid hy
         clear hy
         clear c1)
      | (go_at_call 52
         (with_reducible refine (counted_any b _ (by omega) (by omega)).mono ?_)
         rintro e w1 ⟨yb, rfl, hy, c1⟩
         replace b1 := b1.keep c1 (by simp)
         replace b2 := b2.keep c1 (by simp)
         replace b3 := b3.keep c1 (by simp)
         replace hch := hch.then c1
         rw [HQ.out] at hy
         have HYb := Lib.hid hy
         clear hy
         clear c1)
      | (go_at_call 54
         (with_reducible refine (qsum_any ya yb p q k _ HYa.out HYb.out BA.out BB.out (by omega)).mono ?_)
         rintro e w1 ⟨z, rfl, hz, c1⟩
         replace b1 := b1.keep c1 (by simp)
         replace b2 := b2.keep c1 (by simp)
         replace b3 := b3.keep c1 (by simp)
         replace hch := hch.then c1
         have HZ := Lib.hid hz
         clear hz
         have g0 := b3.c0
         have g1 := b3.c1
         have g2 := b3.c2
         have j0 := b3.f0
         have j1 := b3.f1
         have j2 := b3.f2
         clear c1))
  all_goals
    go_wp2_with fail
    have S := b3.store (.bool z.neg) (.string z.num) (.string z.den)
    exact bodyPost_ret (v := .agg #[.bool z.neg, .string z.num, .string z.den]) (by simp [results, Tryd.results24, go_sem, S.c0, S.c1, S.c2]) rfl ⟨z, rfl, HZ.out, hch.store3 (.inr (by omega)) _ _ _⟩

set_option maxRecDepth 20000 in
set_option maxHeartbeats 1000000 in
theorem Subtract_any (a b : Q3) (k : Nat) (w : World) (fa : fits a k) (fb : fits b k) (hk1 : 1 ≤ k) (hk : k ≤ 68719476736) :
    Calls Tryd.prog 23 #[.agg #[.bool a.neg, .string a.num, .string a.den], .agg #[.bool b.neg, .string b.num, .string b.den]] w fun e w' => ∃ z, e = .returned (.agg #[.bool z.neg, .string z.num, .string z.den]) ∧ Enc z (ratOf a - ratOf b) ∧ Chg [] w w' := by
  obtain ⟨b1, b2, b3, hch⟩ := box3 w a b 29
  have BA := Lib.hid (fa.bd (by omega) : Bd k (ratOf a))
  have BB := Lib.hid (fb.bd (by omega) : Bd k (ratOf b))
  obtain ⟨fa1, fa2⟩ := fa
  obtain ⟨fb1, fb2⟩ := fb
  obtain ⟨p, HP⟩ := name_it (ratOf a)
  obtain ⟨q, HQ⟩ := name_it (ratOf b)
  rw [HP.out] at BA
  rw [HQ.out] at BB
  rw [HP.out, HQ.out]
  go_enter Tryd.func23, Tryd.ntmps23
  go_wp2_with fail
  obtain ⟨w0, HW0⟩ := name_it (((w.alloc (.cells #[.bool a.neg, .string a.num, .string a.den] 29)).alloc (.cells #[.bool b.neg, .string b.num, .string b.den] 29)).alloc (.cells #[.bool false, .string ⟨#[]⟩, .string ⟨#[]⟩] 29))
  rw [HW0.out] at b1 b2 b3 hch ⊢
  replace b1 := b1.keep ((Chg.refl [] _).drew) (by simp)
  replace b2 := b2.keep ((Chg.refl [] _).drew) (by simp)
  replace b3 := b3.keep ((Chg.refl [] _).drew) (by simp)
  replace hch := hch.drew
  go_region_held3 (fun w' => w'.cell? ⟨w.heap.size, 0, none⟩ = some (.bool a.neg) ∧ w'.cell? ⟨w.heap.size, 1, none⟩ = some (.string a.num) ∧ w'.cell? ⟨w.heap.size, 2, none⟩ = some (.string a.den) ∧ w'.cell? ⟨(w.heap.size + 1), 0, none⟩ = some (.bool b.neg) ∧ w'.cell? ⟨(w.heap.size + 1), 1, none⟩ = some (.string b.num) ∧ w'.cell? ⟨(w.heap.size + 1), 2, none⟩ = some (.string b.den)) (first | exact ⟨b1.c0, b1.c1, b1.c2, b2.c0, b2.c1, b2.c2⟩ | exact ⟨by simp [go_sem, b1.c0], by simp [go_sem, b1.c1], by simp [go_sem, b1.c2], by simp [go_sem, b2.c0], by simp [go_sem, b2.c1], by simp [go_sem, b2.c2]⟩) (first
      | (go_at_call 52
         (with_reducible refine (counted_any a _ (by omega) (by omega)).mono ?_)
         rintro e w1 ⟨ya, rfl, hy, c1⟩
         replace b1 := b1.keep c1 (by simp)
         replace b2 := b2.keep c1 (by simp)
         replace b3 := b3.keep c1 (by simp)
         replace hch := hch.then c1
         rw [HP.out] at hy
         have HYa := Lib.hid hy
         clear hy
         clear c1)
      | (go_at_call 52
         (with_reducible refine (counted_any b _ (by omega) (by omega)).mono ?_)
         rintro e w1 ⟨yb, rfl, hy, c1⟩
         replace b1 := b1.keep c1 (by simp)
         replace b2 := b2.keep c1 (by simp)
         replace b3 := b3.keep c1 (by simp)
         replace hch := hch.then c1
         rw [HQ.out] at hy
         have HYb := Lib.hid hy
         clear hy
         clear c1)
      | (go_at_call 55
         (with_reducible refine (negative_any yb q _ HYb.out).mono ?_)
         rintro e w1 ⟨yc, rfl, hy, c1⟩
         replace b1 := b1.keep c1 (by simp)
         replace b2 := b2.keep c1 (by simp)
         replace b3 := b3.keep c1 (by simp)
         replace hch := hch.then c1
         have HYc := Lib.hid hy
         clear hy
         clear c1)
      | (go_at_call 54
         (with_reducible refine (qsum_any ya yc p (-q) k _ HYa.out HYc.out BA.out BB.out.neg (by omega)).mono ?_)
         rintro e w1 ⟨z, rfl, hz, c1⟩
         replace b1 := b1.keep c1 (by simp)
         replace b2 := b2.keep c1 (by simp)
         replace b3 := b3.keep c1 (by simp)
         replace hch := hch.then c1
         rw [← Rat.sub_eq_add_neg] at hz
         have HZ := Lib.hid hz
         clear hz
         have g0 := b3.c0
         have g1 := b3.c1
         have g2 := b3.c2
         have j0 := b3.f0
         have j1 := b3.f1
         have j2 := b3.f2
         clear c1))
  all_goals
    go_wp2_with fail
    have S := b3.store (.bool z.neg) (.string z.num) (.string z.den)
    exact bodyPost_ret (v := .agg #[.bool z.neg, .string z.num, .string z.den]) (by simp [results, Tryd.results23, go_sem, S.c0, S.c1, S.c2]) rfl ⟨z, rfl, HZ.out, hch.store3 (.inr (by omega)) _ _ _⟩

theorem flo_step {neg : Bool} {n d : Nat} (hd : d ≠ 0) : sq neg (if neg && decide (n % d ≠ 0) then n / d + 1 else n / d) 1 = flo (sq neg n d) := flo_sq hd rfl

set_option maxRecDepth 20000 in
set_option maxHeartbeats 1000000 in
theorem Floor_any (a : Q3) (k : Nat) (w : World) (fa : fits a k) (hk1 : 1 ≤ k) (hk : k ≤ 68719476736) :
    Calls Tryd.prog 43 #[.agg #[.bool a.neg, .string a.num, .string a.den]] w fun e w' => ∃ z, e = .returned (.agg #[.bool z.neg, .string z.num, .string z.den]) ∧ Enc z (flo (ratOf a)) ∧ Chg [] w w' := by
  obtain ⟨b1, b2, hch⟩ := box1 w a 29
  have BA := Lib.hid (fa.bd (by omega) : Bd k (ratOf a))
  obtain ⟨fa1, fa2⟩ := fa
  obtain ⟨p, HP⟩ := name_it (ratOf a)
  rw [HP.out] at BA ⊢
  go_enter Tryd.func43, Tryd.ntmps43
  go_wp2_with fail
  obtain ⟨w0, HW0⟩ := name_it ((w.alloc (.cells #[.bool a.neg, .string a.num, .string a.den] 29)).alloc (.cells #[.bool false, .string ⟨#[]⟩, .string ⟨#[]⟩] 29))
  rw [HW0.out] at b1 b2 hch ⊢
  refine (counted_any a _ (by omega) (by omega)).mono ?_
  rintro e w1 ⟨y, rfl, hy, c1⟩
  replace b1 := b1.keep c1 (by simp)
  replace b2 := b2.keep c1 (by simp)
  replace hch := hch.then c1
  clear c1
  rw [HP.out] at hy
  have HY := Lib.hid hy
  clear hy
  have b1c0 := b1.c0
  have b1c1 := b1.c1
  have b1c2 := b1.c2
  have b1f0 := b1.f0
  have b1f1 := b1.f1
  have b1f2 := b1.f2
  have b2c0 := b2.c0
  have b2c1 := b2.c1
  have b2c2 := b2.c2
  have b2f0 := b2.f0
  have b2f1 := b2.f1
  have b2f2 := b2.f2
  have zn := HY.out.num_size BA.out
  have zd := HY.out.dn_size BA.out
  have hv := Lib.hid (show val (dnS y) ≠ 0 by rw [Is_val HY.out.dnS]; exact p.den_nz)
  go_wp2_with fail
  replace b1 := (b1.store (.bool y.neg) (.string y.num) (.string y.den))
  replace b2 := (b2.keep (w' := ((w1.setCell ⟨w.heap.size, 0, none⟩ (.bool y.neg)).setCell ⟨w.heap.size, 1, none⟩ (.string y.num)).setCell ⟨w.heap.size, 2, none⟩ (.string y.den)) (((Chg.refl [w.heap.size] w1).store3 (.inl (by simp)) _ _ _)) (by simp))
  replace hch := hch.store3 (.inr (Nat.le_refl _)) (.bool y.neg) (.string y.num) (.string y.den)
  clear b1c0 b1c1 b1c2 b2c0 b2c1 b2c2 b1f0 b1f1 b1f2 b2f0 b2f1 b2f2
  obtain ⟨w2, HW2⟩ := name_it (((w1.setCell ⟨w.heap.size, 0, none⟩ (.bool y.neg)).setCell ⟨w.heap.size, 1, none⟩ (.string y.num)).setCell ⟨w.heap.size, 2, none⟩ (.string y.den))
  rw [HW2.out] at b1 b2 hch ⊢
  replace b1 := b1.keep ((Chg.refl [] _).drew) (by simp)
  replace b2 := b2.keep ((Chg.refl [] _).drew) (by simp)
  replace hch := hch.drew
  go_region_held3 (fun w' => w'.cell? ⟨w.heap.size, 0, none⟩ = some (.bool y.neg) ∧ w'.cell? ⟨w.heap.size, 1, none⟩ = some (.string y.num) ∧ w'.cell? ⟨w.heap.size, 2, none⟩ = some (.string y.den)) (first | exact ⟨b1.c0, b1.c1, b1.c2⟩ | exact ⟨by simp [go_sem, b1.c0], by simp [go_sem, b1.c1], by simp [go_sem, b1.c2]⟩) (first
      | (go_at_call 78
         (with_reducible refine (denominator_any y _).mono ?_)
         rintro e w1 ⟨rfl, c1⟩
         replace b1 := b1.keep c1 (by simp)
         replace b2 := b2.keep c1 (by simp)
         replace hch := hch.then c1
         clear c1)
      | (go_at_call 11
         (with_reducible refine (Divide_any y.num (dnS y) _ (by omega) (by omega) hv.out).mono ?_)
         rintro e w1 ⟨q1, r1, rfl, hq, hr, c1⟩
         replace b1 := b1.keep c1 (by simp)
         replace b2 := b2.keep c1 (by simp)
         replace hch := hch.then c1
         rw [Is_val HY.out.num, Is_val HY.out.dnS] at hq hr
         have HQ := Lib.hid hq
         have HR := Lib.hid hr
         clear hq hr
         clear c1))
  have hre := Is_empty HR.out
  have zq : q1.size ≤ k := Is_size HQ.out k (Nat.lt_of_le_of_lt (Nat.div_le_self _ _) BA.out.1)
  have hsq : Hid (∀ z, (z = if y.neg && decide (p.num.natAbs % p.den ≠ 0) then p.num.natAbs / p.den + 1 else p.num.natAbs / p.den) → sq y.neg z 1 = flo p) := fun z hz => by
    subst hz
    rw [flo_step p.den_nz, HY.out.sq']
  have b1c0 := b1.c0
  have b1c1 := b1.c1
  have b1c2 := b1.c2
  have b1f0 := b1.f0
  have b1f1 := b1.f1
  have b1f2 := b1.f2
  have b2c0 := b2.c0
  have b2c1 := b2.c1
  have b2c2 := b2.c2
  have b2f0 := b2.f0
  have b2f1 := b2.f1
  have b2f2 := b2.f2
  obtain ⟨rz, HRZ⟩ := name_it (decide (p.num.natAbs % p.den = 0))
  rw [HRZ.out] at hre
  have hrz : Hid (decide (p.num.natAbs % p.den ≠ 0) = !rz) := by show _ = _; rw [← HRZ.out]; simp
  rw [hrz.out] at hsq
  have hgo : y.neg = true ∧ rz = false ∨ (y.neg && !rz) = false := by cases y.neg <;> cases rz <;> simp
  rcases hgo with ⟨hy1, hr1⟩ | hno
  · subst hr1
    rw [hy1] at hsq
    go_wp2_with fail
    refine (add_any q1 ⟨#[1]⟩ _ (by omega) (by decide)).mono ?_
    rintro e w1 ⟨q2, rfl, hq2, c1⟩
    clear b1c0 b1c1 b1c2 b2c0 b2c1 b2c2 b1f0 b1f1 b1f2 b2f0 b2f1 b2f2
    replace b1 := b1.keep c1 (by simp)
    replace b2 := b2.keep c1 (by simp)
    replace hch := hch.then c1
    clear c1
    rw [Is_val HQ.out, Is_val (Is_one.2 rfl)] at hq2
    have HQ2 := Lib.hid hq2
    clear hq2
    replace hsq := Lib.hid (hsq.out _ rfl)
    simp only [Bool.not_false, Bool.and_self, if_true] at hsq
    have b1c0 := b1.c0
    have b1c1 := b1.c1
    have b1c2 := b1.c2
    have b1f0 := b1.f0
    have b1f1 := b1.f1
    have b1f2 := b1.f2
    have b2c0 := b2.c0
    have b2c1 := b2.c1
    have b2c2 := b2.c2
    have b2f0 := b2.f0
    have b2f1 := b2.f1
    have b2f2 := b2.f2
    go_wp2_with fail
    refine (signed_any _ q2 ⟨#[1]⟩ _ 1 _ HQ2.out (Is_one.2 rfl) (by omega) (by simp)).mono ?_
    rintro e w1 ⟨z, rfl, hz, c1⟩
    clear b1c0 b1c1 b1c2 b2c0 b2c1 b2c2 b1f0 b1f1 b1f2 b2f0 b2f1 b2f2
    replace b1 := b1.keep c1 (by simp)
    replace b2 := b2.keep c1 (by simp)
    replace hch := hch.then c1
    clear c1
    rw [hsq.out] at hz
    have HZ := Lib.hid hz
    clear hz
    have b1c0 := b1.c0
    have b1c1 := b1.c1
    have b1c2 := b1.c2
    have b1f0 := b1.f0
    have b1f1 := b1.f1
    have b1f2 := b1.f2
    have b2c0 := b2.c0
    have b2c1 := b2.c1
    have b2c2 := b2.c2
    have b2f0 := b2.f0
    have b2f1 := b2.f1
    have b2f2 := b2.f2
    go_wp2_with fail
    have S := b2.store (.bool z.neg) (.string z.num) (.string z.den)
    exact bodyPost_ret (v := .agg #[.bool z.neg, .string z.num, .string z.den]) (by simp [results, Tryd.results43, go_sem, S.c0, S.c1, S.c2]) rfl ⟨z, rfl, HZ.out, hch.store3 (.inr (by omega)) _ _ _⟩
  · have hsq2 : Hid (sq y.neg (p.num.natAbs / p.den) 1 = flo p) := hsq.out _ (by rw [hno]; simp)
    clear hsq
    cases hyn : y.neg <;> cases rz
    case true.false => rw [hyn] at hno; exact absurd hno (by simp)
    all_goals
      clear hno
      rw [hyn] at hsq2
      go_wp2_with fail
      refine (signed_any _ q1 ⟨#[1]⟩ _ 1 _ HQ.out (Is_one.2 rfl) (by omega) (by simp)).mono ?_
      rintro e w1 ⟨z, rfl, hz, c1⟩
      clear b1c0 b1c1 b1c2 b2c0 b2c1 b2c2 b1f0 b1f1 b1f2 b2f0 b2f1 b2f2
      replace b1 := b1.keep c1 (by simp)
      replace b2 := b2.keep c1 (by simp)
      replace hch := hch.then c1
      clear c1
      rw [hsq2.out] at hz
      have HZ := Lib.hid hz
      clear hz
      have b1c0 := b1.c0
      have b1c1 := b1.c1
      have b1c2 := b1.c2
      have b1f0 := b1.f0
      have b1f1 := b1.f1
      have b1f2 := b1.f2
      have b2c0 := b2.c0
      have b2c1 := b2.c1
      have b2c2 := b2.c2
      have b2f0 := b2.f0
      have b2f1 := b2.f1
      have b2f2 := b2.f2
      go_wp2_with fail
      have S := b2.store (.bool z.neg) (.string z.num) (.string z.den)
      exact bodyPost_ret (v := .agg #[.bool z.neg, .string z.num, .string z.den]) (by simp [results, Tryd.results43, go_sem, S.c0, S.c1, S.c2]) rfl ⟨z, rfl, HZ.out, hch.store3 (.inr (by omega)) _ _ _⟩

end Go.Proofs.YtjmonodjnljhdaaDoor
