/-
  Several parts put together: Q4, Q5, Q6.
-/
import Derived.Test.YtgdpcpbmjgaliaaGJ
import Derived.Test.YtgdpcpbmjgaliaaGD
import Derived.Test.YtgdpcpbmjgaliaaGC
/- Part Q4. -/

namespace Go.Proofs.Ytgdpcpbmjgaliaa
open Go.RowKit Nd

theorem dnS_size {x : Q3} {p : Rat} {k : Nat} (h : Enc x p) (b : Bd k p) : (dnS x).size ≤ k := h.dn_size b
theorem mul_is {X Y s : ByteArray} {x y : Nat} (hX : Is X x) (hY : Is Y y) (h : Is s (val X * val Y)) : Is s (x * y) := by rw [Is_val hX, Is_val hY] at h; exact h

set_option maxRecDepth 20000 in
set_option maxHeartbeats 1000000 in
theorem qcommon_any (a b : Q3) (p q : Rat) (k : Nat) (w : World) (ha : Enc a p) (hb : Enc b q) (bp : Bd k p) (bq : Bd k q) (hk : k ≤ 68719476736) :
    Calls Try.prog 61 #[.agg #[.bool a.neg, .string a.num, .string a.den], .agg #[.bool b.neg, .string b.num, .string b.den]] w fun e w' => ∃ (X Y D : ByteArray) (x y d : Nat), e = .returned (.tuple #[.string X, .string Y, .string D]) ∧ Is X x ∧ Is Y y ∧ Is D d ∧ d ≠ 0 ∧ sq a.neg x d = p ∧ sq b.neg y d = q ∧
      x < 256 ^ (k + k) ∧ y < 256 ^ (k + k) ∧ d < 256 ^ (k + k) ∧ Chg [] w w' := by
  obtain ⟨b1, b2, hch⟩ := box2 w a b 33
  have za := ha.num_size bp
  have zb := hb.num_size bq
  have da := ha.dn_size bp
  have db := hb.dn_size bq
  have HA := Lib.hid ha
  have HB := Lib.hid hb
  have BP := Lib.hid bp
  have BQ := Lib.hid bq
  have HLE : Hid (256 ^ k ≤ 256 ^ (k + k)) := Nat.pow_le_pow_right (by omega) (by omega)
  clear ha hb bp bq
  by_cases hd : (a.den.toList == b.den.toList) = true
  · have hde : Hid (p.den = q.den) := by
      show _ = _
      have h1 : a.den = b.den := by
        apply ByteArray.ext; apply Array.toList_inj.1
        rw [toList_data, toList_data] at hd
        simpa using hd
      have h2 := HA.out.dn
      have h3 := HB.out.dn
      unfold dn at h2 h3
      rw [h1] at h2
      rw [← h2, ← h3]
    go_enter Try.func61, Try.ntmps61
    go_wp2_with fail
    obtain ⟨w0, HW0⟩ := name_it ((w.alloc (.cells #[.bool a.neg, .string a.num, .string a.den] 33)).alloc (.cells #[.bool b.neg, .string b.num, .string b.den] 33))
    rw [HW0.out] at b1 b2 hch ⊢
    replace b1 := b1.keep ((Chg.refl [] _).drew) (by simp)
    replace b2 := b2.keep ((Chg.refl [] _).drew) (by simp)
    replace hch := hch.drew
    go_region_held3 (fun w' => w'.cell? ⟨w.heap.size, 0, none⟩ = some (.bool a.neg) ∧ w'.cell? ⟨w.heap.size, 1, none⟩ = some (.string a.num) ∧ w'.cell? ⟨w.heap.size, 2, none⟩ = some (.string a.den) ∧ w'.cell? ⟨(w.heap.size + 1), 0, none⟩ = some (.bool b.neg) ∧ w'.cell? ⟨(w.heap.size + 1), 1, none⟩ = some (.string b.num) ∧ w'.cell? ⟨(w.heap.size + 1), 2, none⟩ = some (.string b.den)) (first | exact ⟨b1.c0, b1.c1, b1.c2, b2.c0, b2.c1, b2.c2⟩ | exact ⟨by simp [go_sem, b1.c0], by simp [go_sem, b1.c1], by simp [go_sem, b1.c2], by simp [go_sem, b2.c0], by simp [go_sem, b2.c1], by simp [go_sem, b2.c2]⟩) (first
        | (go_at_call 82
           (with_reducible refine (denominator_any a _).mono ?_)
           rintro e w1 ⟨rfl, c1⟩
           replace b1 := b1.keep c1 (by simp)
           replace b2 := b2.keep c1 (by simp)
           replace hch := hch.then c1
           clear c1))
    go_wp2_with fail
    go_ret3
    exact ⟨_, _, _, _, _, _, rfl, HA.out.num, HB.out.num, HA.out.dnS, p.den_nz, HA.out.sq', by rw [hde.out]; exact HB.out.sq', Nat.lt_of_lt_of_le BP.out.1 HLE.out, Nat.lt_of_lt_of_le BQ.out.1 HLE.out, Nat.lt_of_lt_of_le BP.out.2 HLE.out, hch⟩
  · have hd' : (a.den.toList == b.den.toList) = false := by simpa using hd
    clear hd
    go_enter Try.func61, Try.ntmps61
    go_wp2_with fail
    obtain ⟨w0, HW0⟩ := name_it ((w.alloc (.cells #[.bool a.neg, .string a.num, .string a.den] 33)).alloc (.cells #[.bool b.neg, .string b.num, .string b.den] 33))
    rw [HW0.out] at b1 b2 hch ⊢
    replace b1 := b1.keep ((Chg.refl [] _).drew) (by simp)
    replace b2 := b2.keep ((Chg.refl [] _).drew) (by simp)
    replace hch := hch.drew
    go_region_held3 (fun w' => w'.cell? ⟨w.heap.size, 0, none⟩ = some (.bool a.neg) ∧ w'.cell? ⟨w.heap.size, 1, none⟩ = some (.string a.num) ∧ w'.cell? ⟨w.heap.size, 2, none⟩ = some (.string a.den) ∧ w'.cell? ⟨(w.heap.size + 1), 0, none⟩ = some (.bool b.neg) ∧ w'.cell? ⟨(w.heap.size + 1), 1, none⟩ = some (.string b.num) ∧ w'.cell? ⟨(w.heap.size + 1), 2, none⟩ = some (.string b.den)) (first | exact ⟨b1.c0, b1.c1, b1.c2, b2.c0, b2.c1, b2.c2⟩ | exact ⟨by simp [go_sem, b1.c0], by simp [go_sem, b1.c1], by simp [go_sem, b1.c2], by simp [go_sem, b2.c0], by simp [go_sem, b2.c1], by simp [go_sem, b2.c2]⟩) (first
        | (go_at_call 82
           (with_reducible refine (denominator_any b _).mono ?_)
           rintro e w1 ⟨rfl, c1⟩
           replace b1 := b1.keep c1 (by simp)
           replace b2 := b2.keep c1 (by simp)
           replace hch := hch.then c1
           clear c1)
        | (go_at_call 69
           (with_reducible refine (multiply_any a.num (dnS b) _ (by omega) (by omega)).mono ?_)
           rintro e w1 ⟨x, rfl, hs, c1⟩
           replace b1 := b1.keep c1 (by simp)
           replace b2 := b2.keep c1 (by simp)
           replace hch := hch.then c1
           have HX := Lib.hid (mul_is HA.out.num HB.out.dnS hs)
           clear hs
           clear c1))
    go_wp2_with fail
    replace b1 := b1.keep ((Chg.refl [] _).drew) (by simp)
    replace b2 := b2.keep ((Chg.refl [] _).drew) (by simp)
    replace hch := hch.drew
    go_region_held3 (fun w' => w'.cell? ⟨w.heap.size, 0, none⟩ = some (.bool a.neg) ∧ w'.cell? ⟨w.heap.size, 1, none⟩ = some (.string a.num) ∧ w'.cell? ⟨w.heap.size, 2, none⟩ = some (.string a.den) ∧ w'.cell? ⟨(w.heap.size + 1), 0, none⟩ = some (.bool b.neg) ∧ w'.cell? ⟨(w.heap.size + 1), 1, none⟩ = some (.string b.num) ∧ w'.cell? ⟨(w.heap.size + 1), 2, none⟩ = some (.string b.den)) (first | exact ⟨b1.c0, b1.c1, b1.c2, b2.c0, b2.c1, b2.c2⟩ | exact ⟨by simp [go_sem, b1.c0], by simp [go_sem, b1.c1], by simp [go_sem, b1.c2], by simp [go_sem, b2.c0], by simp [go_sem, b2.c1], by simp [go_sem, b2.c2]⟩) (first
        | (go_at_call 82
           (with_reducible refine (denominator_any a _).mono ?_)
           rintro e w1 ⟨rfl, c1⟩
           replace b1 := b1.keep c1 (by simp)
           replace b2 := b2.keep c1 (by simp)
           replace hch := hch.then c1
           clear c1)
        | (go_at_call 69
           (with_reducible refine (multiply_any b.num (dnS a) _ (by omega) (by omega)).mono ?_)
           rintro e w1 ⟨y, rfl, hs, c1⟩
           replace b1 := b1.keep c1 (by simp)
           replace b2 := b2.keep c1 (by simp)
           replace hch := hch.then c1
           have HY := Lib.hid (mul_is HB.out.num HA.out.dnS hs)
           clear hs
           clear c1))
    go_wp2_with fail
    replace b1 := b1.keep ((Chg.refl [] _).drew) (by simp)
    replace b2 := b2.keep ((Chg.refl [] _).drew) (by simp)
    replace hch := hch.drew
    go_region_held3 (fun w' => w'.cell? ⟨w.heap.size, 0, none⟩ = some (.bool a.neg) ∧ w'.cell? ⟨w.heap.size, 1, none⟩ = some (.string a.num) ∧ w'.cell? ⟨w.heap.size, 2, none⟩ = some (.string a.den) ∧ w'.cell? ⟨(w.heap.size + 1), 0, none⟩ = some (.bool b.neg) ∧ w'.cell? ⟨(w.heap.size + 1), 1, none⟩ = some (.string b.num) ∧ w'.cell? ⟨(w.heap.size + 1), 2, none⟩ = some (.string b.den)) (first | exact ⟨b1.c0, b1.c1, b1.c2, b2.c0, b2.c1, b2.c2⟩ | exact ⟨by simp [go_sem, b1.c0], by simp [go_sem, b1.c1], by simp [go_sem, b1.c2], by simp [go_sem, b2.c0], by simp [go_sem, b2.c1], by simp [go_sem, b2.c2]⟩) (first
        | (go_at_call 82
           (with_reducible refine (denominator_any a _).mono ?_)
           rintro e w1 ⟨rfl, c1⟩
           replace b1 := b1.keep c1 (by simp)
           replace b2 := b2.keep c1 (by simp)
           replace hch := hch.then c1
           clear c1)
        | (go_at_call 82
           (with_reducible refine (denominator_any b _).mono ?_)
           rintro e w1 ⟨rfl, c1⟩
           replace b1 := b1.keep c1 (by simp)
           replace b2 := b2.keep c1 (by simp)
           replace hch := hch.then c1
           clear c1)
        | (go_at_call 69
           (with_reducible refine (multiply_any (dnS a) (dnS b) _ (by omega) (by omega)).mono ?_)
           rintro e w1 ⟨d, rfl, hs, c1⟩
           replace b1 := b1.keep c1 (by simp)
           replace b2 := b2.keep c1 (by simp)
           replace hch := hch.then c1
           have HD := Lib.hid (mul_is HA.out.dnS HB.out.dnS hs)
           clear hs
           clear c1))
    all_goals
      go_wp2_with fail
      go_ret3
      refine ⟨_, _, _, _, _, _, rfl, HX.out, HY.out, HD.out, Nat.mul_ne_zero p.den_nz q.den_nz, (sq_expand _ _ _ q.den_nz).trans HA.out.sq', ?_, mul_lt_pow BP.out.1 BQ.out.2, mul_lt_pow BQ.out.1 BP.out.2, mul_lt_pow BP.out.2 BQ.out.2, hch⟩
      rw [Nat.mul_comm p.den]
      exact (sq_expand _ _ _ p.den_nz).trans HB.out.sq'

end Go.Proofs.Ytgdpcpbmjgaliaa

/- Part Q5. -/

namespace Go.Proofs.Ytgdpcpbmjgaliaa
open Go.RowKit Nd

theorem lt_pow_le {x k l : Nat} (h : x < 256 ^ k) (hl : k ≤ l) : x < 256 ^ l := Nat.lt_of_lt_of_le h (Nat.pow_le_pow_right (by omega) hl)
theorem ord_ge0 {x y : Nat} (h : y ≤ x) : 0 ≤ ord x y := by unfold ord; rw [if_neg (by omega)]; split <;> omega

set_option maxRecDepth 20000 in
set_option maxHeartbeats 1000000 in
theorem qsum_any (a b : Q3) (p q : Rat) (k : Nat) (w : World) (ha : Enc a p) (hb : Enc b q) (bp : Bd k p) (bq : Bd k q) (hk : k ≤ 68719476736) :
    Calls Try.prog 64 #[.agg #[.bool a.neg, .string a.num, .string a.den], .agg #[.bool b.neg, .string b.num, .string b.den]] w fun e w' => ∃ z, e = .returned (.agg #[.bool z.neg, .string z.num, .string z.den]) ∧ Enc z (p + q) ∧ Chg [] w w' := by
  obtain ⟨b1, b2, b3, hch⟩ := box3 w a b 33
  have HA := Lib.hid ha
  have HB := Lib.hid hb
  have BP := Lib.hid bp
  have BQ := Lib.hid bq
  clear ha hb bp bq
  by_cases hn : a.neg = b.neg
  · have hnb : (a.neg == b.neg) = true := by rw [hn]; simp
    have HN := Lib.hid hn
    clear hn
    go_enter Try.func64, Try.ntmps64
    go_wp2_with fail
    obtain ⟨w0, HW0⟩ := name_it (((w.alloc (.cells #[.bool a.neg, .string a.num, .string a.den] 33)).alloc (.cells #[.bool b.neg, .string b.num, .string b.den] 33)).alloc (.cells #[.bool false, .string ⟨#[]⟩, .string ⟨#[]⟩] 33))
    rw [HW0.out] at b1 b2 b3 hch ⊢
    refine (qcommon_any a b p q k _ HA.out HB.out BP.out BQ.out hk).mono ?_
    rintro e w1 ⟨X, Y, D, x, y, d, rfl, hX, hY, hD, hdz, e1, e2, lx, ly, ld, c1⟩
    replace b1 := b1.keep c1 (by simp)
    replace b2 := b2.keep c1 (by simp)
    replace b3 := b3.keep c1 (by simp)
    replace hch := hch.then c1
    clear c1
    have HX := Lib.hid hX
    have HY := Lib.hid hY
    have HD := Lib.hid hD
    have HZ := Lib.hid hdz
    have E1 := Lib.hid e1
    have E2 := Lib.hid e2
    have LX := Lib.hid lx
    have LY := Lib.hid ly
    have zx : X.size ≤ k + k := Is_size hX _ lx
    have zy : Y.size ≤ k + k := Is_size hY _ ly
    have zd : D.size ≤ 1099511627776 := Nat.le_trans (Is_size hD _ ld) (by omega)
    clear hX hY hD hdz e1 e2 lx ly ld
    have b1c0 := b1.c0
    have b1c1 := b1.c1
    have b1c2 := b1.c2
    have b2c0 := b2.c0
    have b2c1 := b2.c1
    have b2c2 := b2.c2
    have b3c0 := b3.c0
    have b3c1 := b3.c1
    have b3c2 := b3.c2
    have b3f0 := b3.f0
    have b3f1 := b3.f1
    have b3f2 := b3.f2
    go_wp2_with fail
    refine (add_any X Y _ (by omega) (by omega)).mono ?_
    rintro e w1 ⟨Z, rfl, hz, c1⟩
    clear b1c0 b1c1 b1c2 b2c0 b2c1 b2c2 b3c0 b3c1 b3c2 b3f0 b3f1 b3f2
    replace b1 := b1.keep c1 (by simp)
    replace b2 := b2.keep c1 (by simp)
    replace b3 := b3.keep c1 (by simp)
    replace hch := hch.then c1
    clear c1
    rw [Is_val HX.out, Is_val HY.out] at hz
    have zn : Z.size ≤ 1099511627776 := Nat.le_trans (Is_size hz _ (add_lt_pow LX.out LY.out)) (by omega)
    have HZZ := Lib.hid hz
    clear hz
    have b1c0 := b1.c0
    have b1c1 := b1.c1
    have b1c2 := b1.c2
    have b2c0 := b2.c0
    have b2c1 := b2.c1
    have b2c2 := b2.c2
    have b3c0 := b3.c0
    have b3c1 := b3.c1
    have b3c2 := b3.c2
    have b3f0 := b3.f0
    have b3f1 := b3.f1
    have b3f2 := b3.f2
    go_wp2_with fail
    refine (lowest_any Z D (x + y) d 1099511627776 _ HZZ.out HD.out HZ.out (Nat.le_refl _) zn zd).mono ?_
    rintro e w1 ⟨U, V, rfl, hu, hv, c1⟩
    clear b1c0 b1c1 b1c2 b2c0 b2c1 b2c2 b3c0 b3c1 b3c2 b3f0 b3f1 b3f2
    replace b1 := b1.keep c1 (by simp)
    replace b2 := b2.keep c1 (by simp)
    replace b3 := b3.keep c1 (by simp)
    replace hch := hch.then c1
    clear c1
    have HU := Lib.hid hu
    have HV := Lib.hid hv
    clear hu hv
    have b1c0 := b1.c0
    have b1c1 := b1.c1
    have b1c2 := b1.c2
    have b2c0 := b2.c0
    have b2c1 := b2.c1
    have b2c2 := b2.c2
    have b3c0 := b3.c0
    have b3c1 := b3.c1
    have b3c2 := b3.c2
    have b3f0 := b3.f0
    have b3f1 := b3.f1
    have b3f2 := b3.f2
    go_wp2_with fail
    refine (signed_any _ U V _ _ _ HU.out HV.out (lowest_den HZ.out) (lowest_gcd HZ.out)).mono ?_
    rintro e w1 ⟨z, rfl, hz, c1⟩
    clear b1c0 b1c1 b1c2 b2c0 b2c1 b2c2 b3c0 b3c1 b3c2 b3f0 b3f1 b3f2
    replace b1 := b1.keep c1 (by simp)
    replace b2 := b2.keep c1 (by simp)
    replace b3 := b3.keep c1 (by simp)
    replace hch := hch.then c1
    clear c1
    rw [sq_lowest HZ.out] at hz
    rw [show sq a.neg (x + y) d = p + q by rw [← sum_same _ HZ.out, E1.out]; rw [← E2.out, HN.out]] at hz
    have HE := Lib.hid hz
    clear hz
    have b1c0 := b1.c0
    have b1c1 := b1.c1
    have b1c2 := b1.c2
    have b2c0 := b2.c0
    have b2c1 := b2.c1
    have b2c2 := b2.c2
    have b3c0 := b3.c0
    have b3c1 := b3.c1
    have b3c2 := b3.c2
    have b3f0 := b3.f0
    have b3f1 := b3.f1
    have b3f2 := b3.f2
    go_wp2_with fail
    have S := b3.store (.bool z.neg) (.string z.num) (.string z.den)
    exact bodyPost_ret (v := .agg #[.bool z.neg, .string z.num, .string z.den]) (by simp [results, Try.results64, go_sem, S.c0, S.c1, S.c2]) rfl ⟨z, rfl, HE.out, hch.store3 (.inr (by omega)) _ _ _⟩
  · have hnb : (a.neg == b.neg) = false := by rw [beq_eq_false_iff_ne]; exact hn
    have HN := Lib.hid hn
    clear hn
    go_enter Try.func64, Try.ntmps64
    go_wp2_with fail
    obtain ⟨w0, HW0⟩ := name_it (((w.alloc (.cells #[.bool a.neg, .string a.num, .string a.den] 33)).alloc (.cells #[.bool b.neg, .string b.num, .string b.den] 33)).alloc (.cells #[.bool false, .string ⟨#[]⟩, .string ⟨#[]⟩] 33))
    rw [HW0.out] at b1 b2 b3 hch ⊢
    refine (qcommon_any a b p q k _ HA.out HB.out BP.out BQ.out hk).mono ?_
    rintro e w1 ⟨X, Y, D, x, y, d, rfl, hX, hY, hD, hdz, e1, e2, lx, ly, ld, c1⟩
    replace b1 := b1.keep c1 (by simp)
    replace b2 := b2.keep c1 (by simp)
    replace b3 := b3.keep c1 (by simp)
    replace hch := hch.then c1
    clear c1
    have HX := Lib.hid hX
    have HY := Lib.hid hY
    have HD := Lib.hid hD
    have HZ := Lib.hid hdz
    have E1 := Lib.hid e1
    have E2 := Lib.hid e2
    have LX := Lib.hid lx
    have LY := Lib.hid ly
    have zx : X.size ≤ k + k := Is_size hX _ lx
    have zy : Y.size ≤ k + k := Is_size hY _ ly
    have zd : D.size ≤ 1099511627776 := Nat.le_trans (Is_size hD _ ld) (by omega)
    clear hX hY hD hdz e1 e2 lx ly ld
    have b1c0 := b1.c0
    have b1c1 := b1.c1
    have b1c2 := b1.c2
    have b2c0 := b2.c0
    have b2c1 := b2.c1
    have b2c2 := b2.c2
    have b3c0 := b3.c0
    have b3c1 := b3.c1
    have b3c2 := b3.c2
    have b3f0 := b3.f0
    have b3f1 := b3.f1
    have b3f2 := b3.f2
    by_cases hxy : y ≤ x
    · obtain ⟨r, HR⟩ := name_it (ord x y)
      have hr : 0 ≤ r := by rw [← HR.out]; exact ord_ge0 hxy
      have HXY := Lib.hid hxy
      clear hxy
      go_wp2_with fail
      refine (compare_any X Y _ (by omega) (by omega)).mono ?_
      rintro e w1 ⟨rfl, rfl⟩
      rw [Is_val HX.out, Is_val HY.out, HR.out]
      go_wp2_with fail
      refine (subtract_any X Y _ (by omega) (by omega) (by rw [Is_val HX.out, Is_val HY.out]; exact HXY.out)).mono ?_
      rintro e w1 ⟨Z, rfl, hz, c1⟩
      clear b1c0 b1c1 b1c2 b2c0 b2c1 b2c2 b3c0 b3c1 b3c2 b3f0 b3f1 b3f2
      replace b1 := b1.keep c1 (by simp)
      replace b2 := b2.keep c1 (by simp)
      replace b3 := b3.keep c1 (by simp)
      replace hch := hch.then c1
      clear c1
      rw [Is_val HX.out, Is_val HY.out] at hz
      have zn : Z.size ≤ 1099511627776 := Nat.le_trans (Is_size hz _ (Nat.lt_of_le_of_lt (Nat.sub_le _ _) LX.out)) (by omega)
      have HZZ := Lib.hid hz
      clear hz
      have b1c0 := b1.c0
      have b1c1 := b1.c1
      have b1c2 := b1.c2
      have b2c0 := b2.c0
      have b2c1 := b2.c1
      have b2c2 := b2.c2
      have b3c0 := b3.c0
      have b3c1 := b3.c1
      have b3c2 := b3.c2
      have b3f0 := b3.f0
      have b3f1 := b3.f1
      have b3f2 := b3.f2
      go_wp2_with fail
      refine (lowest_any Z D (x - y) d 1099511627776 _ HZZ.out HD.out HZ.out (Nat.le_refl _) zn zd).mono ?_
      rintro e w1 ⟨U, V, rfl, hu, hv, c1⟩
      clear b1c0 b1c1 b1c2 b2c0 b2c1 b2c2 b3c0 b3c1 b3c2 b3f0 b3f1 b3f2
      replace b1 := b1.keep c1 (by simp)
      replace b2 := b2.keep c1 (by simp)
      replace b3 := b3.keep c1 (by simp)
      replace hch := hch.then c1
      clear c1
      have HU := Lib.hid hu
      have HV := Lib.hid hv
      clear hu hv
      have b1c0 := b1.c0
      have b1c1 := b1.c1
      have b1c2 := b1.c2
      have b2c0 := b2.c0
      have b2c1 := b2.c1
      have b2c2 := b2.c2
      have b3c0 := b3.c0
      have b3c1 := b3.c1
      have b3c2 := b3.c2
      have b3f0 := b3.f0
      have b3f1 := b3.f1
      have b3f2 := b3.f2
      go_wp2_with fail
      refine (signed_any _ U V _ _ _ HU.out HV.out (lowest_den HZ.out) (lowest_gcd HZ.out)).mono ?_
      rintro e w1 ⟨z, rfl, hz, c1⟩
      clear b1c0 b1c1 b1c2 b2c0 b2c1 b2c2 b3c0 b3c1 b3c2 b3f0 b3f1 b3f2
      replace b1 := b1.keep c1 (by simp)
      replace b2 := b2.keep c1 (by simp)
      replace b3 := b3.keep c1 (by simp)
      replace hch := hch.then c1
      clear c1
      rw [sq_lowest HZ.out] at hz
      rw [show sq a.neg (x - y) d = p + q by rw [← sum_ge _ _ HZ.out HN.out HXY.out, E1.out, E2.out]] at hz
      have HE := Lib.hid hz
      clear hz
      have b1c0 := b1.c0
      have b1c1 := b1.c1
      have b1c2 := b1.c2
      have b2c0 := b2.c0
      have b2c1 := b2.c1
      have b2c2 := b2.c2
      have b3c0 := b3.c0
      have b3c1 := b3.c1
      have b3c2 := b3.c2
      have b3f0 := b3.f0
      have b3f1 := b3.f1
      have b3f2 := b3.f2
      go_wp2_with fail
      have S := b3.store (.bool z.neg) (.string z.num) (.string z.den)
      exact bodyPost_ret (v := .agg #[.bool z.neg, .string z.num, .string z.den]) (by simp [results, Try.results64, go_sem, S.c0, S.c1, S.c2]) rfl ⟨z, rfl, HE.out, hch.store3 (.inr (by omega)) _ _ _⟩
    · obtain ⟨r, HR⟩ := name_it (ord x y)
      have hr : ¬ 0 ≤ r := by rw [← HR.out, ord_lt (by omega)]; omega
      have HXY := Lib.hid (show x ≤ y by omega)
      clear hxy
      go_wp2_with fail
      refine (compare_any X Y _ (by omega) (by omega)).mono ?_
      rintro e w1 ⟨rfl, rfl⟩
      rw [Is_val HX.out, Is_val HY.out, HR.out]
      go_wp2_with fail
      refine (subtract_any Y X _ (by omega) (by omega) (by rw [Is_val HX.out, Is_val HY.out]; exact HXY.out)).mono ?_
      rintro e w1 ⟨Z, rfl, hz, c1⟩
      clear b1c0 b1c1 b1c2 b2c0 b2c1 b2c2 b3c0 b3c1 b3c2 b3f0 b3f1 b3f2
      replace b1 := b1.keep c1 (by simp)
      replace b2 := b2.keep c1 (by simp)
      replace b3 := b3.keep c1 (by simp)
      replace hch := hch.then c1
      clear c1
      rw [Is_val HX.out, Is_val HY.out] at hz
      have zn : Z.size ≤ 1099511627776 := Nat.le_trans (Is_size hz _ (Nat.lt_of_le_of_lt (Nat.sub_le _ _) LY.out)) (by omega)
      have HZZ := Lib.hid hz
      clear hz
      have b1c0 := b1.c0
      have b1c1 := b1.c1
      have b1c2 := b1.c2
      have b2c0 := b2.c0
      have b2c1 := b2.c1
      have b2c2 := b2.c2
      have b3c0 := b3.c0
      have b3c1 := b3.c1
      have b3c2 := b3.c2
      have b3f0 := b3.f0
      have b3f1 := b3.f1
      have b3f2 := b3.f2
      go_wp2_with fail
      refine (lowest_any Z D (y - x) d 1099511627776 _ HZZ.out HD.out HZ.out (Nat.le_refl _) zn zd).mono ?_
      rintro e w1 ⟨U, V, rfl, hu, hv, c1⟩
      clear b1c0 b1c1 b1c2 b2c0 b2c1 b2c2 b3c0 b3c1 b3c2 b3f0 b3f1 b3f2
      replace b1 := b1.keep c1 (by simp)
      replace b2 := b2.keep c1 (by simp)
      replace b3 := b3.keep c1 (by simp)
      replace hch := hch.then c1
      clear c1
      have HU := Lib.hid hu
      have HV := Lib.hid hv
      clear hu hv
      have b1c0 := b1.c0
      have b1c1 := b1.c1
      have b1c2 := b1.c2
      have b2c0 := b2.c0
      have b2c1 := b2.c1
      have b2c2 := b2.c2
      have b3c0 := b3.c0
      have b3c1 := b3.c1
      have b3c2 := b3.c2
      have b3f0 := b3.f0
      have b3f1 := b3.f1
      have b3f2 := b3.f2
      go_wp2_with fail
      refine (signed_any _ U V _ _ _ HU.out HV.out (lowest_den HZ.out) (lowest_gcd HZ.out)).mono ?_
      rintro e w1 ⟨z, rfl, hz, c1⟩
      clear b1c0 b1c1 b1c2 b2c0 b2c1 b2c2 b3c0 b3c1 b3c2 b3f0 b3f1 b3f2
      replace b1 := b1.keep c1 (by simp)
      replace b2 := b2.keep c1 (by simp)
      replace b3 := b3.keep c1 (by simp)
      replace hch := hch.then c1
      clear c1
      rw [sq_lowest HZ.out] at hz
      rw [show sq b.neg (y - x) d = p + q by rw [← sum_lt _ _ HZ.out HN.out HXY.out, E1.out, E2.out]] at hz
      have HE := Lib.hid hz
      clear hz
      have b1c0 := b1.c0
      have b1c1 := b1.c1
      have b1c2 := b1.c2
      have b2c0 := b2.c0
      have b2c1 := b2.c1
      have b2c2 := b2.c2
      have b3c0 := b3.c0
      have b3c1 := b3.c1
      have b3c2 := b3.c2
      have b3f0 := b3.f0
      have b3f1 := b3.f1
      have b3f2 := b3.f2
      go_wp2_with fail
      have S := b3.store (.bool z.neg) (.string z.num) (.string z.den)
      exact bodyPost_ret (v := .agg #[.bool z.neg, .string z.num, .string z.den]) (by simp [results, Try.results64, go_sem, S.c0, S.c1, S.c2]) rfl ⟨z, rfl, HE.out, hch.store3 (.inr (by omega)) _ _ _⟩

end Go.Proofs.Ytgdpcpbmjgaliaa

/- Part Q6. -/

namespace Go.Proofs.Ytgdpcpbmjgaliaa
open Go.RowKit Nd

set_option maxRecDepth 20000 in
set_option maxHeartbeats 1000000 in
theorem Add_any (a b : Q3) (k : Nat) (w : World) (fa : fits a k) (fb : fits b k) (hk1 : 1 ≤ k) (hk : k ≤ 68719476736) :
    Calls Try.prog 46 #[.agg #[.bool a.neg, .string a.num, .string a.den], .agg #[.bool b.neg, .string b.num, .string b.den]] w fun e w' => ∃ z, e = .returned (.agg #[.bool z.neg, .string z.num, .string z.den]) ∧ Enc z (ratOf a + ratOf b) ∧ Chg [] w w' := by
  obtain ⟨b1, b2, b3, hch⟩ := box3 w a b 33
  have BA := Lib.hid (fa.bd (by omega) : Bd k (ratOf a))
  have BB := Lib.hid (fb.bd (by omega) : Bd k (ratOf b))
  obtain ⟨fa1, fa2⟩ := fa
  obtain ⟨fb1, fb2⟩ := fb
  obtain ⟨p, HP⟩ := name_it (ratOf a)
  obtain ⟨q, HQ⟩ := name_it (ratOf b)
  rw [HP.out] at BA
  rw [HQ.out] at BB
  rw [HP.out, HQ.out]
  go_enter Try.func46, Try.ntmps46
  go_wp2_with fail
  obtain ⟨w0, HW0⟩ := name_it (((w.alloc (.cells #[.bool a.neg, .string a.num, .string a.den] 33)).alloc (.cells #[.bool b.neg, .string b.num, .string b.den] 33)).alloc (.cells #[.bool false, .string ⟨#[]⟩, .string ⟨#[]⟩] 33))
  rw [HW0.out] at b1 b2 b3 hch ⊢
  replace b1 := b1.keep ((Chg.refl [] _).drew) (by simp)
  replace b2 := b2.keep ((Chg.refl [] _).drew) (by simp)
  replace b3 := b3.keep ((Chg.refl [] _).drew) (by simp)
  replace hch := hch.drew
  go_region_held3 (fun w' => w'.cell? ⟨w.heap.size, 0, none⟩ = some (.bool a.neg) ∧ w'.cell? ⟨w.heap.size, 1, none⟩ = some (.string a.num) ∧ w'.cell? ⟨w.heap.size, 2, none⟩ = some (.string a.den) ∧ w'.cell? ⟨(w.heap.size + 1), 0, none⟩ = some (.bool b.neg) ∧ w'.cell? ⟨(w.heap.size + 1), 1, none⟩ = some (.string b.num) ∧ w'.cell? ⟨(w.heap.size + 1), 2, none⟩ = some (.string b.den)) (first | exact ⟨b1.c0, b1.c1, b1.c2, b2.c0, b2.c1, b2.c2⟩ | exact ⟨by simp [go_sem, b1.c0], by simp [go_sem, b1.c1], by simp [go_sem, b1.c2], by simp [go_sem, b2.c0], by simp [go_sem, b2.c1], by simp [go_sem, b2.c2]⟩) (first
      | (go_at_call 45
         (with_reducible refine (counted_any a _ (by omega) (by omega)).mono ?_)
         rintro e w1 ⟨ya, rfl, hy, c1⟩
         replace b1 := b1.keep c1 (by simp)
         replace b2 := b2.keep c1 (by simp)
         replace b3 := b3.keep c1 (by simp)
         replace hch := hch.then c1
         rw [HP.out] at hy
         have HYa := Lib.hid hy
         clear hy
         clear c1)
      | (go_at_call 45
         (with_reducible refine (counted_any b _ (by omega) (by omega)).mono ?_)
         rintro e w1 ⟨yb, rfl, hy, c1⟩
         replace b1 := b1.keep c1 (by simp)
         replace b2 := b2.keep c1 (by simp)
         replace b3 := b3.keep c1 (by simp)
         replace hch := hch.then c1
         rw [HQ.out] at hy
         have HYb := Lib.hid hy
         clear hy
         clear c1)
      | (go_at_call 64
         (with_reducible refine (qsum_any ya yb p q k _ HYa.out HYb.out BA.out BB.out (by omega)).mono ?_)
         rintro e w1 ⟨z, rfl, hz, c1⟩
         replace b1 := b1.keep c1 (by simp)
         replace b2 := b2.keep c1 (by simp)
         replace b3 := b3.keep c1 (by simp)
         replace hch := hch.then c1
         have HZ := Lib.hid hz
         clear hz
         have g0 := b3.c0
         have g1 := b3.c1
         have g2 := b3.c2
         have j0 := b3.f0
         have j1 := b3.f1
         have j2 := b3.f2
         clear c1))
  all_goals
    go_wp2_with fail
    have S := b3.store (.bool z.neg) (.string z.num) (.string z.den)
    exact bodyPost_ret (v := .agg #[.bool z.neg, .string z.num, .string z.den]) (by simp [results, Try.results46, go_sem, S.c0, S.c1, S.c2]) rfl ⟨z, rfl, HZ.out, hch.store3 (.inr (by omega)) _ _ _⟩

theorem flo_step {neg : Bool} {n d : Nat} (hd : d ≠ 0) : sq neg (if neg && decide (n % d ≠ 0) then n / d + 1 else n / d) 1 = flo (sq neg n d) := flo_sq hd rfl

end Go.Proofs.Ytgdpcpbmjgaliaa
