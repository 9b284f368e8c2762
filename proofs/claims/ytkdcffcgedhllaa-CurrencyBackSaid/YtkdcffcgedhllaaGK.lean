/-
  Several parts put together: Q4, Q5, Q6.
-/
import Derived.Test.YtkdcffcgedhllaaGJ
import Derived.Test.YtkdcffcgedhllaaGD
import Derived.Test.YtkdcffcgedhllaaGC
/- Part Q4. -/

namespace Go.Proofs.Ytkdcffcgedhllaa
open Go.RowKit Nd

theorem dnS_size {x : Q3} {p : Rat} {k : Nat} (h : Enc x p) (b : Bd k p) : (dnS x).size ≤ k := h.dn_size b
theorem mul_is {X Y s : ByteArray} {x y : Nat} (hX : Is X x) (hY : Is Y y) (h : Is s (val X * val Y)) : Is s (x * y) := by rw [Is_val hX, Is_val hY] at h; exact h

end Go.Proofs.Ytkdcffcgedhllaa

/- Part Q5. -/

namespace Go.Proofs.Ytkdcffcgedhllaa
open Go.RowKit Nd

set_option maxRecDepth 20000 in
set_option maxHeartbeats 1000000 in
theorem qproduct_any (a b : Q3) (p q : Rat) (k : Nat) (w : World) (ha : Enc a p) (hb : Enc b q) (bp : Bd k p) (bq : Bd k q) (hk : k ≤ 68719476736) :
    Calls Try.prog 47 #[.agg #[.bool a.neg, .string a.num, .string a.den], .agg #[.bool b.neg, .string b.num, .string b.den]] w fun e w' => ∃ z, e = .returned (.agg #[.bool z.neg, .string z.num, .string z.den]) ∧ Enc z (p * q) ∧ Chg [] w w' := by
  obtain ⟨b1, b2, b3, hch⟩ := box3 w a b 30
  have za := ha.num_size bp
  have zb := hb.num_size bq
  have da := ha.dn_size bp
  have db := hb.dn_size bq
  have HA := Lib.hid ha
  have HB := Lib.hid hb
  have hnd := p.reduced
  have hme := q.reduced
  have hd := p.den_nz
  have he := q.den_nz
  have ln := bp.1
  have lm := bq.1
  have ld := bp.2
  have le := bq.2
  have s1 := ha.sq'
  have s2 := hb.sq'
  have i1 := Lib.hid ha.num
  have i2 := Lib.hid ha.dnS
  have i3 := Lib.hid hb.num
  have i4 := Lib.hid hb.dnS
  obtain ⟨n, NN⟩ := name_it p.num.natAbs
  obtain ⟨d, ND⟩ := name_it p.den
  obtain ⟨m, NM⟩ := name_it q.num.natAbs
  obtain ⟨f, NE⟩ := name_it q.den
  rw [NN.out, ND.out] at hnd s1
  rw [NM.out, NE.out] at hme s2
  rw [NN.out] at i1 ln
  rw [ND.out] at i2 hd ld
  rw [NM.out] at i3 lm
  rw [NE.out] at i4 he le
  have LN : Hid (∀ g, n / g < 256 ^ k) := fun g => Nat.lt_of_le_of_lt (Nat.div_le_self _ _) ln
  have LM : Hid (∀ g, m / g < 256 ^ k) := fun g => Nat.lt_of_le_of_lt (Nat.div_le_self _ _) lm
  have LD : Hid (∀ g, d / g < 256 ^ k) := fun g => Nat.lt_of_le_of_lt (Nat.div_le_self _ _) ld
  have LF : Hid (∀ g, f / g < 256 ^ k) := fun g => Nat.lt_of_le_of_lt (Nat.div_le_self _ _) le
  have hsq : Hid (sq (!(a.neg == b.neg)) (n / Nat.gcd n f * (m / Nat.gcd m d)) (d / Nat.gcd m d * (f / Nat.gcd n f)) = p * q) := by
    have := sq_cross a.neg b.neg (n := n) (m := m) hd he
    show _ = _
    rw [← s1, ← s2]; exact this
  have hco : Hid (Nat.gcd (n / Nat.gcd n f * (m / Nat.gcd m d)) (d / Nat.gcd m d * (f / Nat.gcd n f)) = 1) := coprime_cross hd he hnd hme
  have hnz : Hid (d / Nat.gcd m d * (f / Nat.gcd n f) ≠ 0) := Nat.mul_ne_zero (lowest_den hd) (lowest_den he)
  have HD := Lib.hid hd
  have HF := Lib.hid he
  clear ha hb bp bq hnd hme hd he ln lm ld le s1 s2
  go_enter Try.func47, Try.ntmps47
  go_wp2_with fail
  obtain ⟨w0, HW0⟩ := name_it (((w.alloc (.cells #[.bool a.neg, .string a.num, .string a.den] 30)).alloc (.cells #[.bool b.neg, .string b.num, .string b.den] 30)).alloc (.cells #[.bool false, .string ⟨#[]⟩, .string ⟨#[]⟩] 30))
  rw [HW0.out] at b1 b2 b3 hch ⊢
  replace b1 := b1.keep ((Chg.refl [] _).drew) (by simp)
  replace b2 := b2.keep ((Chg.refl [] _).drew) (by simp)
  replace b3 := b3.keep ((Chg.refl [] _).drew) (by simp)
  replace hch := hch.drew
  go_region_held3 (fun w' => w'.cell? ⟨w.heap.size, 0, none⟩ = some (.bool a.neg) ∧ w'.cell? ⟨w.heap.size, 1, none⟩ = some (.string a.num) ∧ w'.cell? ⟨w.heap.size, 2, none⟩ = some (.string a.den) ∧ w'.cell? ⟨(w.heap.size + 1), 0, none⟩ = some (.bool b.neg) ∧ w'.cell? ⟨(w.heap.size + 1), 1, none⟩ = some (.string b.num) ∧ w'.cell? ⟨(w.heap.size + 1), 2, none⟩ = some (.string b.den)) (first | exact ⟨b1.c0, b1.c1, b1.c2, b2.c0, b2.c1, b2.c2⟩ | exact ⟨by simp [go_sem, b1.c0], by simp [go_sem, b1.c1], by simp [go_sem, b1.c2], by simp [go_sem, b2.c0], by simp [go_sem, b2.c1], by simp [go_sem, b2.c2]⟩) (first
      | (go_at_call 48
         (with_reducible refine (denominator_any b _).mono ?_)
         rintro e w1 ⟨rfl, c1⟩
         replace b1 := b1.keep c1 (by simp)
         replace b2 := b2.keep c1 (by simp)
         replace b3 := b3.keep c1 (by simp)
         replace hch := hch.then c1
         clear c1)
      | (go_at_call 60
         (with_reducible refine (lowest_any a.num (dnS b) n f 1099511627776 _ i1.out i4.out HF.out (Nat.le_refl _) (by omega) (by omega)).mono ?_)
         rintro e w1 ⟨x1, y1, rfl, hs1, hs2, c1⟩
         replace b1 := b1.keep c1 (by simp)
         replace b2 := b2.keep c1 (by simp)
         replace b3 := b3.keep c1 (by simp)
         replace hch := hch.then c1
         have HX1 := Lib.hid hs1
         have HY1 := Lib.hid hs2
         clear hs1 hs2
         clear c1))
  have zx1 : x1.size ≤ k := Is_size HX1.out k (LN.out _)
  have zy1 : y1.size ≤ k := Is_size HY1.out k (LF.out _)
  go_wp2_with fail
  replace b1 := b1.keep ((Chg.refl [] _).drew) (by simp)
  replace b2 := b2.keep ((Chg.refl [] _).drew) (by simp)
  replace b3 := b3.keep ((Chg.refl [] _).drew) (by simp)
  replace hch := hch.drew
  go_region_held3 (fun w' => w'.cell? ⟨w.heap.size, 0, none⟩ = some (.bool a.neg) ∧ w'.cell? ⟨w.heap.size, 1, none⟩ = some (.string a.num) ∧ w'.cell? ⟨w.heap.size, 2, none⟩ = some (.string a.den) ∧ w'.cell? ⟨(w.heap.size + 1), 0, none⟩ = some (.bool b.neg) ∧ w'.cell? ⟨(w.heap.size + 1), 1, none⟩ = some (.string b.num) ∧ w'.cell? ⟨(w.heap.size + 1), 2, none⟩ = some (.string b.den)) (first | exact ⟨b1.c0, b1.c1, b1.c2, b2.c0, b2.c1, b2.c2⟩ | exact ⟨by simp [go_sem, b1.c0], by simp [go_sem, b1.c1], by simp [go_sem, b1.c2], by simp [go_sem, b2.c0], by simp [go_sem, b2.c1], by simp [go_sem, b2.c2]⟩) (first
      | (go_at_call 48
         (with_reducible refine (denominator_any a _).mono ?_)
         rintro e w1 ⟨rfl, c1⟩
         replace b1 := b1.keep c1 (by simp)
         replace b2 := b2.keep c1 (by simp)
         replace b3 := b3.keep c1 (by simp)
         replace hch := hch.then c1
         clear c1)
      | (go_at_call 60
         (with_reducible refine (lowest_any b.num (dnS a) m d 1099511627776 _ i3.out i2.out HD.out (Nat.le_refl _) (by omega) (by omega)).mono ?_)
         rintro e w1 ⟨x2, y2, rfl, hs1, hs2, c1⟩
         replace b1 := b1.keep c1 (by simp)
         replace b2 := b2.keep c1 (by simp)
         replace b3 := b3.keep c1 (by simp)
         replace hch := hch.then c1
         have HX2 := Lib.hid hs1
         have HY2 := Lib.hid hs2
         clear hs1 hs2
         clear c1))
  have zx2 : x2.size ≤ k := Is_size HX2.out k (LM.out _)
  have zy2 : y2.size ≤ k := Is_size HY2.out k (LD.out _)
  go_wp2_with fail
  replace b1 := b1.keep ((Chg.refl [] _).drew) (by simp)
  replace b2 := b2.keep ((Chg.refl [] _).drew) (by simp)
  replace b3 := b3.keep ((Chg.refl [] _).drew) (by simp)
  replace hch := hch.drew
  go_region_held3 (fun w' => w'.cell? ⟨w.heap.size, 0, none⟩ = some (.bool a.neg) ∧ w'.cell? ⟨w.heap.size, 1, none⟩ = some (.string a.num) ∧ w'.cell? ⟨w.heap.size, 2, none⟩ = some (.string a.den) ∧ w'.cell? ⟨(w.heap.size + 1), 0, none⟩ = some (.bool b.neg) ∧ w'.cell? ⟨(w.heap.size + 1), 1, none⟩ = some (.string b.num) ∧ w'.cell? ⟨(w.heap.size + 1), 2, none⟩ = some (.string b.den)) (first | exact ⟨b1.c0, b1.c1, b1.c2, b2.c0, b2.c1, b2.c2⟩ | exact ⟨by simp [go_sem, b1.c0], by simp [go_sem, b1.c1], by simp [go_sem, b1.c2], by simp [go_sem, b2.c0], by simp [go_sem, b2.c1], by simp [go_sem, b2.c2]⟩) (first
      | (go_at_call 61
         (with_reducible refine (multiply_any x1 x2 _ (by omega) (by omega)).mono ?_)
         rintro e w1 ⟨u, rfl, hs, c1⟩
         replace b1 := b1.keep c1 (by simp)
         replace b2 := b2.keep c1 (by simp)
         replace b3 := b3.keep c1 (by simp)
         replace hch := hch.then c1
         have HU := Lib.hid (mul_is HX1.out HX2.out hs)
         clear hs
         clear c1)
      | (go_at_call 61
         (with_reducible refine (multiply_any y2 y1 _ (by omega) (by omega)).mono ?_)
         rintro e w1 ⟨v, rfl, hs, c1⟩
         replace b1 := b1.keep c1 (by simp)
         replace b2 := b2.keep c1 (by simp)
         replace b3 := b3.keep c1 (by simp)
         replace hch := hch.then c1
         have HV := Lib.hid (mul_is HY2.out HY1.out hs)
         clear hs
         clear c1)
      | (go_at_call 28
         (with_reducible refine (signed_any _ u v _ _ _ HU.out HV.out hnz.out hco.out).mono ?_)
         rintro e w1 ⟨z, rfl, hz, c1⟩
         replace b1 := b1.keep c1 (by simp)
         replace b2 := b2.keep c1 (by simp)
         replace b3 := b3.keep c1 (by simp)
         replace hch := hch.then c1
         rw [hsq.out] at hz
         have HZ := Lib.hid hz
         clear hz
         have g0 := b3.c0
         have g1 := b3.c1
         have g2 := b3.c2
         have j0 := b3.f0
         have j1 := b3.f1
         have j2 := b3.f2
         clear c1))
  all_goals
    go_wp2_with fail
    have S := b3.store (.bool z.neg) (.string z.num) (.string z.den)
    exact bodyPost_ret (v := .agg #[.bool z.neg, .string z.num, .string z.den]) (by simp [results, Try.results47, go_sem, S.c0, S.c1, S.c2]) rfl ⟨z, rfl, HZ.out, hch.store3 (.inr (by omega)) _ _ _⟩

theorem lt_pow_le {x k l : Nat} (h : x < 256 ^ k) (hl : k ≤ l) : x < 256 ^ l := Nat.lt_of_lt_of_le h (Nat.pow_le_pow_right (by omega) hl)
theorem ord_ge0 {x y : Nat} (h : y ≤ x) : 0 ≤ ord x y := by unfold ord; rw [if_neg (by omega)]; split <;> omega

end Go.Proofs.Ytkdcffcgedhllaa

/- Part Q6. -/

namespace Go.Proofs.Ytkdcffcgedhllaa
open Go.RowKit Nd

set_option maxRecDepth 20000 in
set_option maxHeartbeats 1000000 in
theorem Multiply_any (a b : Q3) (k : Nat) (w : World) (fa : fits a k) (fb : fits b k) (hk1 : 1 ≤ k) (hk : k ≤ 68719476736) :
    Calls Try.prog 34 #[.agg #[.bool a.neg, .string a.num, .string a.den], .agg #[.bool b.neg, .string b.num, .string b.den]] w fun e w' => ∃ z, e = .returned (.agg #[.bool z.neg, .string z.num, .string z.den]) ∧ Enc z ((ratOf a) * (ratOf b)) ∧ Chg [] w w' := by
  obtain ⟨b1, b2, b3, hch⟩ := box3 w a b 30
  have BA := Lib.hid (fa.bd (by omega) : Bd k (ratOf a))
  have BB := Lib.hid (fb.bd (by omega) : Bd k (ratOf b))
  obtain ⟨fa1, fa2⟩ := fa
  obtain ⟨fb1, fb2⟩ := fb
  obtain ⟨p, HP⟩ := name_it (ratOf a)
  obtain ⟨q, HQ⟩ := name_it (ratOf b)
  rw [HP.out] at BA
  rw [HQ.out] at BB
  rw [HP.out, HQ.out]
  go_enter Try.func34, Try.ntmps34
  go_wp2_with fail
  obtain ⟨w0, HW0⟩ := name_it (((w.alloc (.cells #[.bool a.neg, .string a.num, .string a.den] 30)).alloc (.cells #[.bool b.neg, .string b.num, .string b.den] 30)).alloc (.cells #[.bool false, .string ⟨#[]⟩, .string ⟨#[]⟩] 30))
  rw [HW0.out] at b1 b2 b3 hch ⊢
  replace b1 := b1.keep ((Chg.refl [] _).drew) (by simp)
  replace b2 := b2.keep ((Chg.refl [] _).drew) (by simp)
  replace b3 := b3.keep ((Chg.refl [] _).drew) (by simp)
  replace hch := hch.drew
  go_region_held3 (fun w' => w'.cell? ⟨w.heap.size, 0, none⟩ = some (.bool a.neg) ∧ w'.cell? ⟨w.heap.size, 1, none⟩ = some (.string a.num) ∧ w'.cell? ⟨w.heap.size, 2, none⟩ = some (.string a.den) ∧ w'.cell? ⟨(w.heap.size + 1), 0, none⟩ = some (.bool b.neg) ∧ w'.cell? ⟨(w.heap.size + 1), 1, none⟩ = some (.string b.num) ∧ w'.cell? ⟨(w.heap.size + 1), 2, none⟩ = some (.string b.den)) (first | exact ⟨b1.c0, b1.c1, b1.c2, b2.c0, b2.c1, b2.c2⟩ | exact ⟨by simp [go_sem, b1.c0], by simp [go_sem, b1.c1], by simp [go_sem, b1.c2], by simp [go_sem, b2.c0], by simp [go_sem, b2.c1], by simp [go_sem, b2.c2]⟩) (first
      | (go_at_call 46
         (with_reducible refine (counted_any a _ (by omega) (by omega)).mono ?_)
         rintro e w1 ⟨ya, rfl, hy, c1⟩
         replace b1 := b1.keep c1 (by simp)
         replace b2 := b2.keep c1 (by simp)
         replace b3 := b3.keep c1 (by simp)
         replace hch := hch.then c1
         rw [HP.out] at hy
         have HYa := Lib.hid hy
         clear hy
         clear c1)
      | (go_at_call 46
         (with_reducible refine (counted_any b _ (by omega) (by omega)).mono ?_)
         rintro e w1 ⟨yb, rfl, hy, c1⟩
         replace b1 := b1.keep c1 (by simp)
         replace b2 := b2.keep c1 (by simp)
         replace b3 := b3.keep c1 (by simp)
         replace hch := hch.then c1
         rw [HQ.out] at hy
         have HYb := Lib.hid hy
         clear hy
         clear c1)
      | (go_at_call 47
         (with_reducible refine (qproduct_any ya yb p q k _ HYa.out HYb.out BA.out BB.out (by omega)).mono ?_)
         rintro e w1 ⟨z, rfl, hz, c1⟩
         replace b1 := b1.keep c1 (by simp)
         replace b2 := b2.keep c1 (by simp)
         replace b3 := b3.keep c1 (by simp)
         replace hch := hch.then c1
         have HZ := Lib.hid hz
         clear hz
         have g0 := b3.c0
         have g1 := b3.c1
         have g2 := b3.c2
         have j0 := b3.f0
         have j1 := b3.f1
         have j2 := b3.f2
         clear c1))
  all_goals
    go_wp2_with fail
    have S := b3.store (.bool z.neg) (.string z.num) (.string z.den)
    exact bodyPost_ret (v := .agg #[.bool z.neg, .string z.num, .string z.den]) (by simp [results, Try.results34, go_sem, S.c0, S.c1, S.c2]) rfl ⟨z, rfl, HZ.out, hch.store3 (.inr (by omega)) _ _ _⟩

theorem flo_step {neg : Bool} {n d : Nat} (hd : d ≠ 0) : sq neg (if neg && decide (n % d ≠ 0) then n / d + 1 else n / d) 1 = flo (sq neg n d) := flo_sq hd rfl

end Go.Proofs.Ytkdcffcgedhllaa
