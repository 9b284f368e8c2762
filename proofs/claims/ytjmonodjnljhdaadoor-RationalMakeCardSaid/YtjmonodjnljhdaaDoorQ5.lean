/-
  Walks of package rational: product, sum, order.
-/
import Derived.Test.YtjmonodjnljhdaaDoorQ4
import Derived.Test.YtjmonodjnljhdaaDoorW4
namespace Go.Proofs.YtjmonodjnljhdaaDoor
open Go.RowKit Nd

theorem lt_pow_le {x k l : Nat} (h : x < 256 ^ k) (hl : k ≤ l) : x < 256 ^ l := Nat.lt_of_lt_of_le h (Nat.pow_le_pow_right (by omega) hl)
theorem ord_ge0 {x y : Nat} (h : y ≤ x) : 0 ≤ ord x y := by unfold ord; rw [if_neg (by omega)]; split <;> omega

set_option maxRecDepth 20000 in
set_option maxHeartbeats 1000000 in
theorem qsum_any (a b : Q3) (p q : Rat) (k : Nat) (w : World) (ha : Enc a p) (hb : Enc b q) (bp : Bd k p) (bq : Bd k q) (hk : k ≤ 68719476736) :
    Calls Tryd.prog 54 #[.agg #[.bool a.neg, .string a.num, .string a.den], .agg #[.bool b.neg, .string b.num, .string b.den]] w fun e w' => ∃ z, e = .returned (.agg #[.bool z.neg, .string z.num, .string z.den]) ∧ Enc z (p + q) ∧ Chg [] w w' := by
  obtain ⟨b1, b2, b3, hch⟩ := box3 w a b 29
  have HA := Lib.hid ha
  have HB := Lib.hid hb
  have BP := Lib.hid bp
  have BQ := Lib.hid bq
  clear ha hb bp bq
  by_cases hn : a.neg = b.neg
  · have hnb : (a.neg == b.neg) = true := by rw [hn]; simp
    have HN := Lib.hid hn
    clear hn
    go_enter Tryd.func54, Tryd.ntmps54
    go_wp2_with fail
    obtain ⟨w0, HW0⟩ := name_it (((w.alloc (.cells #[.bool a.neg, .string a.num, .string a.den] 29)).alloc (.cells #[.bool b.neg, .string b.num, .string b.den] 29)).alloc (.cells #[.bool false, .string ⟨#[]⟩, .string ⟨#[]⟩] 29))
    rw [HW0.out] at b1 b2 b3 hch ⊢
    refine (qcommon_any a b p q k _ HA.out HB.out BP.out BQ.out hk).mono ?_
    rintro e w1 ⟨X, Y, D, x, y, d, rfl, hX, hY, hD, hdz, e1, e2, lx, ly, ld, c1⟩
    replace b1 := b1.keep c1 (by simp)
    replace b2 := b2.keep c1 (by simp)
    replace b3 := b3.keep c1 (by simp)
    replace hch := hch.then c1
    clear c1
    have HX := Lib.hid hX
    have HY := Lib.hid hY
    have HD := Lib.hid hD
    have HZ := Lib.hid hdz
    have E1 := Lib.hid e1
    have E2 := Lib.hid e2
    have LX := Lib.hid lx
    have LY := Lib.hid ly
    have zx : X.size ≤ k + k := Is_size hX _ lx
    have zy : Y.size ≤ k + k := Is_size hY _ ly
    have zd : D.size ≤ 1099511627776 := Nat.le_trans (Is_size hD _ ld) (by omega)
    clear hX hY hD hdz e1 e2 lx ly ld
    have b1c0 := b1.c0
    have b1c1 := b1.c1
    have b1c2 := b1.c2
    have b2c0 := b2.c0
    have b2c1 := b2.c1
    have b2c2 := b2.c2
    have b3c0 := b3.c0
    have b3c1 := b3.c1
    have b3c2 := b3.c2
    have b3f0 := b3.f0
    have b3f1 := b3.f1
    have b3f2 := b3.f2
    go_wp2_with fail
    refine (add_any X Y _ (by omega) (by omega)).mono ?_
    rintro e w1 ⟨Z, rfl, hz, c1⟩
    clear b1c0 b1c1 b1c2 b2c0 b2c1 b2c2 b3c0 b3c1 b3c2 b3f0 b3f1 b3f2
    replace b1 := b1.keep c1 (by simp)
    replace b2 := b2.keep c1 (by simp)
    replace b3 := b3.keep c1 (by simp)
    replace hch := hch.then c1
    clear c1
    rw [Is_val HX.out, Is_val HY.out] at hz
    have zn : Z.size ≤ 1099511627776 := Nat.le_trans (Is_size hz _ (add_lt_pow LX.out LY.out)) (by omega)
    have HZZ := Lib.hid hz
    clear hz
    have b1c0 := b1.c0
    have b1c1 := b1.c1
    have b1c2 := b1.c2
    have b2c0 := b2.c0
    have b2c1 := b2.c1
    have b2c2 := b2.c2
    have b3c0 := b3.c0
    have b3c1 := b3.c1
    have b3c2 := b3.c2
    have b3f0 := b3.f0
    have b3f1 := b3.f1
    have b3f2 := b3.f2
    go_wp2_with fail
    refine (lowest_any Z D (x + y) d 1099511627776 _ HZZ.out HD.out HZ.out (Nat.le_refl _) zn zd).mono ?_
    rintro e w1 ⟨U, V, rfl, hu, hv, c1⟩
    clear b1c0 b1c1 b1c2 b2c0 b2c1 b2c2 b3c0 b3c1 b3c2 b3f0 b3f1 b3f2
    replace b1 := b1.keep c1 (by simp)
    replace b2 := b2.keep c1 (by simp)
    replace b3 := b3.keep c1 (by simp)
    replace hch := hch.then c1
    clear c1
    have HU := Lib.hid hu
    have HV := Lib.hid hv
    clear hu hv
    have b1c0 := b1.c0
    have b1c1 := b1.c1
    have b1c2 := b1.c2
    have b2c0 := b2.c0
    have b2c1 := b2.c1
    have b2c2 := b2.c2
    have b3c0 := b3.c0
    have b3c1 := b3.c1
    have b3c2 := b3.c2
    have b3f0 := b3.f0
    have b3f1 := b3.f1
    have b3f2 := b3.f2
    go_wp2_with fail
    refine (signed_any _ U V _ _ _ HU.out HV.out (lowest_den HZ.out) (lowest_gcd HZ.out)).mono ?_
    rintro e w1 ⟨z, rfl, hz, c1⟩
    clear b1c0 b1c1 b1c2 b2c0 b2c1 b2c2 b3c0 b3c1 b3c2 b3f0 b3f1 b3f2
    replace b1 := b1.keep c1 (by simp)
    replace b2 := b2.keep c1 (by simp)
    replace b3 := b3.keep c1 (by simp)
    replace hch := hch.then c1
    clear c1
    rw [sq_lowest HZ.out] at hz
    rw [show sq a.neg (x + y) d = p + q by rw [← sum_same _ HZ.out, E1.out]; rw [← E2.out, HN.out]] at hz
    have HE := Lib.hid hz
    clear hz
    have b1c0 := b1.c0
    have b1c1 := b1.c1
    have b1c2 := b1.c2
    have b2c0 := b2.c0
    have b2c1 := b2.c1
    have b2c2 := b2.c2
    have b3c0 := b3.c0
    have b3c1 := b3.c1
    have b3c2 := b3.c2
    have b3f0 := b3.f0
    have b3f1 := b3.f1
    have b3f2 := b3.f2
    go_wp2_with fail
    have S := b3.store (.bool z.neg) (.string z.num) (.string z.den)
    exact bodyPost_ret (v := .agg #[.bool z.neg, .string z.num, .string z.den]) (by simp [results, Tryd.results54, go_sem, S.c0, S.c1, S.c2]) rfl ⟨z, rfl, HE.out, hch.store3 (.inr (by omega)) _ _ _⟩
  · have hnb : (a.neg == b.neg) = false := by rw [beq_eq_false_iff_ne]; exact hn
    have HN := Lib.hid hn
    clear hn
    go_enter Tryd.func54, Tryd.ntmps54
    go_wp2_with fail
    obtain ⟨w0, HW0⟩ := name_it (((w.alloc (.cells #[.bool a.neg, .string a.num, .string a.den] 29)).alloc (.cells #[.bool b.neg, .string b.num, .string b.den] 29)).alloc (.cells #[.bool false, .string ⟨#[]⟩, .string ⟨#[]⟩] 29))
    rw [HW0.out] at b1 b2 b3 hch ⊢
    refine (qcommon_any a b p q k _ HA.out HB.out BP.out BQ.out hk).mono ?_
    rintro e w1 ⟨X, Y, D, x, y, d, rfl, hX, hY, hD, hdz, e1, e2, lx, ly, ld, c1⟩
    replace b1 := b1.keep c1 (by simp)
    replace b2 := b2.keep c1 (by simp)
    replace b3 := b3.keep c1 (by simp)
    replace hch := hch.then c1
    clear c1
    have HX := Lib.hid hX
    have HY := Lib.hid hY
    have HD := Lib.hid hD
    have HZ := Lib.hid hdz
    have E1 := Lib.hid e1
    have E2 := Lib.hid e2
    have LX := Lib.hid lx
    have LY := Lib.hid ly
    have zx : X.size ≤ k + k := Is_size hX _ lx
    have zy : Y.size ≤ k + k := Is_size hY _ ly
    have zd : D.size ≤ 1099511627776 := Nat.le_trans (Is_size hD _ ld) (by omega)
    clear hX hY hD hdz e1 e2 lx ly ld
    have b1c0 := b1.c0
    have b1c1 := b1.c1
    have b1c2 := b1.c2
    have b2c0 := b2.c0
    have b2c1 := b2.c1
    have b2c2 := b2.c2
    have b3c0 := b3.c0
    have b3c1 := b3.c1
    have b3c2 := b3.c2
    have b3f0 := b3.f0
    have b3f1 := b3.f1
    have b3f2 := b3.f2
    by_cases hxy : y ≤ x
    · obtain ⟨r, HR⟩ := name_it (ord x y)
      have hr : 0 ≤ r := by rw [← HR.out]; exact ord_ge0 hxy
      have HXY := Lib.hid hxy
      clear hxy
      go_wp2_with fail
      refine (compare_any X Y _ (by omega) (by omega)).mono ?_
      rintro e w1 ⟨rfl, rfl⟩
      rw [Is_val HX.out, Is_val HY.out, HR.out]
      go_wp2_with fail
      refine (subtract_any X Y _ (by omega) (by omega) (by rw [Is_val HX.out, Is_val HY.out]; exact HXY.out)).mono ?_
      rintro e w1 ⟨Z, rfl, hz, c1⟩
      clear b1c0 b1c1 b1c2 b2c0 b2c1 b2c2 b3c0 b3c1 b3c2 b3f0 b3f1 b3f2
      replace b1 := b1.keep c1 (by simp)
      replace b2 := b2.keep c1 (by simp)
      replace b3 := b3.keep c1 (by simp)
      replace hch := hch.then c1
      clear c1
      rw [Is_val HX.out, Is_val HY.out] at hz
      have zn : Z.size ≤ 1099511627776 := Nat.le_trans (Is_size hz _ (Nat.lt_of_le_of_lt (Nat.sub_le _ _) LX.out)) (by omega)
      have HZZ := Lib.hid hz
      clear hz
      have b1c0 := b1.c0
      have b1c1 := b1.c1
      have b1c2 := b1.c2
      have b2c0 := b2.c0
      have b2c1 := b2.c1
      have b2c2 := b2.c2
      have b3c0 := b3.c0
      have b3c1 := b3.c1
      have b3c2 := b3.c2
      have b3f0 := b3.f0
      have b3f1 := b3.f1
      have b3f2 := b3.f2
      go_wp2_with fail
      refine (lowest_any Z D (x - y) d 1099511627776 _ HZZ.out HD.out HZ.out (Nat.le_refl _) zn zd).mono ?_
      rintro e w1 ⟨U, V, rfl, hu, hv, c1⟩
      clear b1c0 b1c1 b1c2 b2c0 b2c1 b2c2 b3c0 b3c1 b3c2 b3f0 b3f1 b3f2
      replace b1 := b1.keep c1 (by simp)
      replace b2 := b2.keep c1 (by simp)
      replace b3 := b3.keep c1 (by simp)
      replace hch := hch.then c1
      clear c1
      have HU := Lib.hid hu
      have HV := Lib.hid hv
      clear hu hv
      have b1c0 := b1.c0
      have b1c1 := b1.c1
      have b1c2 := b1.c2
      have b2c0 := b2.c0
      have b2c1 := b2.c1
      have b2c2 := b2.c2
      have b3c0 := b3.c0
      have b3c1 := b3.c1
      have b3c2 := b3.c2
      have b3f0 := b3.f0
      have b3f1 := b3.f1
      have b3f2 := b3.f2
      go_wp2_with fail
      refine (signed_any _ U V _ _ _ HU.out HV.out (lowest_den HZ.out) (lowest_gcd HZ.out)).mono ?_
      rintro e w1 ⟨z, rfl, hz, c1⟩
      clear b1c0 b1c1 b1c2 b2c0 b2c1 b2c2 b3c0 b3c1 b3c2 b3f0 b3f1 b3f2
      replace b1 := b1.keep c1 (by simp)
      replace b2 := b2.keep c1 (by simp)
      replace b3 := b3.keep c1 (by simp)
      replace hch := hch.then c1
      clear c1
      rw [sq_lowest HZ.out] at hz
      rw [show sq a.neg (x - y) d = p + q by rw [← sum_ge _ _ HZ.out HN.out HXY.out, E1.out, E2.out]] at hz
      have HE := Lib.hid hz
      clear hz
      have b1c0 := b1.c0
      have b1c1 := b1.c1
      have b1c2 := b1.c2
      have b2c0 := b2.c0
      have b2c1 := b2.c1
      have b2c2 := b2.c2
      have b3c0 := b3.c0
      have b3c1 := b3.c1
      have b3c2 := b3.c2
      have b3f0 := b3.f0
      have b3f1 := b3.f1
      have b3f2 := b3.f2
      go_wp2_with fail
      have S := b3.store (.bool z.neg) (.string z.num) (.string z.den)
      exact bodyPost_ret (v := .agg #[.bool z.neg, .string z.num, .string z.den]) (by simp [results, Tryd.results54, go_sem, S.c0, S.c1, S.c2]) rfl ⟨z, rfl, HE.out, hch.store3 (.inr (by omega)) _ _ _⟩
    · obtain ⟨r, HR⟩ := name_it (ord x y)
      have hr : ¬ 0 ≤ r := by rw [← HR.out, ord_lt (by omega)]; omega
      have HXY := Lib.hid (show x ≤ y by omega)
      clear hxy
      go_wp2_with fail
      refine (compare_any X Y _ (by omega) (by omega)).mono ?_
      rintro e w1 ⟨rfl, rfl⟩
      rw [Is_val HX.out, Is_val HY.out, HR.out]
      go_wp2_with fail
      refine (subtract_any Y X _ (by omega) (by omega) (by rw [Is_val HX.out, Is_val HY.out]; exact HXY.out)).mono ?_
      rintro e w1 ⟨Z, rfl, hz, c1⟩
      clear b1c0 b1c1 b1c2 b2c0 b2c1 b2c2 b3c0 b3c1 b3c2 b3f0 b3f1 b3f2
      replace b1 := b1.keep c1 (by simp)
      replace b2 := b2.keep c1 (by simp)
      replace b3 := b3.keep c1 (by simp)
      replace hch := hch.then c1
      clear c1
      rw [Is_val HX.out, Is_val HY.out] at hz
      have zn : Z.size ≤ 1099511627776 := Nat.le_trans (Is_size hz _ (Nat.lt_of_le_of_lt (Nat.sub_le _ _) LY.out)) (by omega)
      have HZZ := Lib.hid hz
      clear hz
      have b1c0 := b1.c0
      have b1c1 := b1.c1
      have b1c2 := b1.c2
      have b2c0 := b2.c0
      have b2c1 := b2.c1
      have b2c2 := b2.c2
      have b3c0 := b3.c0
      have b3c1 := b3.c1
      have b3c2 := b3.c2
      have b3f0 := b3.f0
      have b3f1 := b3.f1
      have b3f2 := b3.f2
      go_wp2_with fail
      refine (lowest_any Z D (y - x) d 1099511627776 _ HZZ.out HD.out HZ.out (Nat.le_refl _) zn zd).mono ?_
      rintro e w1 ⟨U, V, rfl, hu, hv, c1⟩
      clear b1c0 b1c1 b1c2 b2c0 b2c1 b2c2 b3c0 b3c1 b3c2 b3f0 b3f1 b3f2
      replace b1 := b1.keep c1 (by simp)
      replace b2 := b2.keep c1 (by simp)
      replace b3 := b3.keep c1 (by simp)
      replace hch := hch.then c1
      clear c1
      have HU := Lib.hid hu
      have HV := Lib.hid hv
      clear hu hv
      have b1c0 := b1.c0
      have b1c1 := b1.c1
      have b1c2 := b1.c2
      have b2c0 := b2.c0
      have b2c1 := b2.c1
      have b2c2 := b2.c2
      have b3c0 := b3.c0
      have b3c1 := b3.c1
      have b3c2 := b3.c2
      have b3f0 := b3.f0
      have b3f1 := b3.f1
      have b3f2 := b3.f2
      go_wp2_with fail
      refine (signed_any _ U V _ _ _ HU.out HV.out (lowest_den HZ.out) (lowest_gcd HZ.out)).mono ?_
      rintro e w1 ⟨z, rfl, hz, c1⟩
      clear b1c0 b1c1 b1c2 b2c0 b2c1 b2c2 b3c0 b3c1 b3c2 b3f0 b3f1 b3f2
      replace b1 := b1.keep c1 (by simp)
      replace b2 := b2.keep c1 (by simp)
      replace b3 := b3.keep c1 (by simp)
      replace hch := hch.then c1
      clear c1
      rw [sq_lowest HZ.out] at hz
      rw [show sq b.neg (y - x) d = p + q by rw [← sum_lt _ _ HZ.out HN.out HXY.out, E1.out, E2.out]] at hz
      have HE := Lib.hid hz
      clear hz
      have b1c0 := b1.c0
      have b1c1 := b1.c1
      have b1c2 := b1.c2
      have b2c0 := b2.c0
      have b2c1 := b2.c1
      have b2c2 := b2.c2
      have b3c0 := b3.c0
      have b3c1 := b3.c1
      have b3c2 := b3.c2
      have b3f0 := b3.f0
      have b3f1 := b3.f1
      have b3f2 := b3.f2
      go_wp2_with fail
      have S := b3.store (.bool z.neg) (.string z.num) (.string z.den)
      exact bodyPost_ret (v := .agg #[.bool z.neg, .string z.num, .string z.den]) (by simp [results, Tryd.results54, go_sem, S.c0, S.c1, S.c2]) rfl ⟨z, rfl, HE.out, hch.store3 (.inr (by omega)) _ _ _⟩

end Go.Proofs.YtjmonodjnljhdaaDoor
