/-
  Walks of package rational: common, sum, product, order.
-/
import Derived.Test.YtjmonodjnljhdaaGreatDoorQ3
import Derived.Test.YtjmonodjnljhdaaGreatDoorW6
namespace Go.Proofs.YtjmonodjnljhdaaGreatDoor
open Go.RowKit Nd

theorem dnS_size {x : Q3} {p : Rat} {k : Nat} (h : Enc x p) (b : Bd k p) : (dnS x).size ≤ k := h.dn_size b
theorem mul_is {X Y s : ByteArray} {x y : Nat} (hX : Is X x) (hY : Is Y y) (h : Is s (val X * val Y)) : Is s (x * y) := by rw [Is_val hX, Is_val hY] at h; exact h

set_option maxRecDepth 20000 in
set_option maxHeartbeats 1000000 in
theorem qcommon_any (a b : Q3) (p q : Rat) (k : Nat) (w : World) (ha : Enc a p) (hb : Enc b q) (bp : Bd k p) (bq : Bd k q) (hk : k ≤ 68719476736) :
    Calls Tryz.prog 102 #[.agg #[.bool a.neg, .string a.num, .string a.den], .agg #[.bool b.neg, .string b.num, .string b.den]] w fun e w' => ∃ (X Y D : ByteArray) (x y d : Nat), e = .returned (.tuple #[.string X, .string Y, .string D]) ∧ Is X x ∧ Is Y y ∧ Is D d ∧ d ≠ 0 ∧ sq a.neg x d = p ∧ sq b.neg y d = q ∧
      x < 256 ^ (k + k) ∧ y < 256 ^ (k + k) ∧ d < 256 ^ (k + k) ∧ Chg [] w w' := by
  obtain ⟨b1, b2, hch⟩ := box2 w a b 23
  have za := ha.num_size bp
  have zb := hb.num_size bq
  have da := ha.dn_size bp
  have db := hb.dn_size bq
  have HA := Lib.hid ha
  have HB := Lib.hid hb
  have BP := Lib.hid bp
  have BQ := Lib.hid bq
  have HLE : Hid (256 ^ k ≤ 256 ^ (k + k)) := Nat.pow_le_pow_right (by omega) (by omega)
  clear ha hb bp bq
  by_cases hd : (a.den.toList == b.den.toList) = true
  · have hde : Hid (p.den = q.den) := by
      show _ = _
      have h1 : a.den = b.den := by
        apply ByteArray.ext; apply Array.toList_inj.1
        rw [toList_data, toList_data] at hd
        simpa using hd
      have h2 := HA.out.dn
      have h3 := HB.out.dn
      unfold dn at h2 h3
      rw [h1] at h2
      rw [← h2, ← h3]
    go_enter Tryz.func102, Tryz.ntmps102
    go_wp2_with fail
    obtain ⟨w0, HW0⟩ := name_it ((w.alloc (.cells #[.bool a.neg, .string a.num, .string a.den] 23)).alloc (.cells #[.bool b.neg, .string b.num, .string b.den] 23))
    rw [HW0.out] at b1 b2 hch ⊢
    replace b1 := b1.keep ((Chg.refl [] _).drew) (by simp)
    replace b2 := b2.keep ((Chg.refl [] _).drew) (by simp)
    replace hch := hch.drew
    go_region_held3 (fun w' => w'.cell? ⟨w.heap.size, 0, none⟩ = some (.bool a.neg) ∧ w'.cell? ⟨w.heap.size, 1, none⟩ = some (.string a.num) ∧ w'.cell? ⟨w.heap.size, 2, none⟩ = some (.string a.den) ∧ w'.cell? ⟨(w.heap.size + 1), 0, none⟩ = some (.bool b.neg) ∧ w'.cell? ⟨(w.heap.size + 1), 1, none⟩ = some (.string b.num) ∧ w'.cell? ⟨(w.heap.size + 1), 2, none⟩ = some (.string b.den)) (first | exact ⟨b1.c0, b1.c1, b1.c2, b2.c0, b2.c1, b2.c2⟩ | exact ⟨by simp [go_sem, b1.c0], by simp [go_sem, b1.c1], by simp [go_sem, b1.c2], by simp [go_sem, b2.c0], by simp [go_sem, b2.c1], by simp [go_sem, b2.c2]⟩) (first
        | (go_at_call 75
           (with_reducible refine (denominator_any a _).mono ?_)
           rintro e w1 ⟨rfl, c1⟩
           replace b1 := b1.keep c1 (by simp)
           replace b2 := b2.keep c1 (by simp)
           replace hch := hch.then c1
           clear c1))
    go_wp2_with fail
    go_ret3
    exact ⟨_, _, _, _, _, _, rfl, HA.out.num, HB.out.num, HA.out.dnS, p.den_nz, HA.out.sq', by rw [hde.out]; exact HB.out.sq', Nat.lt_of_lt_of_le BP.out.1 HLE.out, Nat.lt_of_lt_of_le BQ.out.1 HLE.out, Nat.lt_of_lt_of_le BP.out.2 HLE.out, hch⟩
  · have hd' : (a.den.toList == b.den.toList) = false := by simpa using hd
    clear hd
    go_enter Tryz.func102, Tryz.ntmps102
    go_wp2_with fail
    obtain ⟨w0, HW0⟩ := name_it ((w.alloc (.cells #[.bool a.neg, .string a.num, .string a.den] 23)).alloc (.cells #[.bool b.neg, .string b.num, .string b.den] 23))
    rw [HW0.out] at b1 b2 hch ⊢
    replace b1 := b1.keep ((Chg.refl [] _).drew) (by simp)
    replace b2 := b2.keep ((Chg.refl [] _).drew) (by simp)
    replace hch := hch.drew
    go_region_held3 (fun w' => w'.cell? ⟨w.heap.size, 0, none⟩ = some (.bool a.neg) ∧ w'.cell? ⟨w.heap.size, 1, none⟩ = some (.string a.num) ∧ w'.cell? ⟨w.heap.size, 2, none⟩ = some (.string a.den) ∧ w'.cell? ⟨(w.heap.size + 1), 0, none⟩ = some (.bool b.neg) ∧ w'.cell? ⟨(w.heap.size + 1), 1, none⟩ = some (.string b.num) ∧ w'.cell? ⟨(w.heap.size + 1), 2, none⟩ = some (.string b.den)) (first | exact ⟨b1.c0, b1.c1, b1.c2, b2.c0, b2.c1, b2.c2⟩ | exact ⟨by simp [go_sem, b1.c0], by simp [go_sem, b1.c1], by simp [go_sem, b1.c2], by simp [go_sem, b2.c0], by simp [go_sem, b2.c1], by simp [go_sem, b2.c2]⟩) (first
        | (go_at_call 75
           (with_reducible refine (denominator_any b _).mono ?_)
           rintro e w1 ⟨rfl, c1⟩
           replace b1 := b1.keep c1 (by simp)
           replace b2 := b2.keep c1 (by simp)
           replace hch := hch.then c1
           clear c1)
        | (go_at_call 93
           (with_reducible refine (multiply_any a.num (dnS b) _ (by omega) (by omega)).mono ?_)
           rintro e w1 ⟨x, rfl, hs, c1⟩
           replace b1 := b1.keep c1 (by simp)
           replace b2 := b2.keep c1 (by simp)
           replace hch := hch.then c1
           have HX := Lib.hid (mul_is HA.out.num HB.out.dnS hs)
           clear hs
           clear c1))
    go_wp2_with fail
    replace b1 := b1.keep ((Chg.refl [] _).drew) (by simp)
    replace b2 := b2.keep ((Chg.refl [] _).drew) (by simp)
    replace hch := hch.drew
    go_region_held3 (fun w' => w'.cell? ⟨w.heap.size, 0, none⟩ = some (.bool a.neg) ∧ w'.cell? ⟨w.heap.size, 1, none⟩ = some (.string a.num) ∧ w'.cell? ⟨w.heap.size, 2, none⟩ = some (.string a.den) ∧ w'.cell? ⟨(w.heap.size + 1), 0, none⟩ = some (.bool b.neg) ∧ w'.cell? ⟨(w.heap.size + 1), 1, none⟩ = some (.string b.num) ∧ w'.cell? ⟨(w.heap.size + 1), 2, none⟩ = some (.string b.den)) (first | exact ⟨b1.c0, b1.c1, b1.c2, b2.c0, b2.c1, b2.c2⟩ | exact ⟨by simp [go_sem, b1.c0], by simp [go_sem, b1.c1], by simp [go_sem, b1.c2], by simp [go_sem, b2.c0], by simp [go_sem, b2.c1], by simp [go_sem, b2.c2]⟩) (first
        | (go_at_call 75
           (with_reducible refine (denominator_any a _).mono ?_)
           rintro e w1 ⟨rfl, c1⟩
           replace b1 := b1.keep c1 (by simp)
           replace b2 := b2.keep c1 (by simp)
           replace hch := hch.then c1
           clear c1)
        | (go_at_call 93
           (with_reducible refine (multiply_any b.num (dnS a) _ (by omega) (by omega)).mono ?_)
           rintro e w1 ⟨y, rfl, hs, c1⟩
           replace b1 := b1.keep c1 (by simp)
           replace b2 := b2.keep c1 (by simp)
           replace hch := hch.then c1
           have HY := Lib.hid (mul_is HB.out.num HA.out.dnS hs)
           clear hs
           clear c1))
    go_wp2_with fail
    replace b1 := b1.keep ((Chg.refl [] _).drew) (by simp)
    replace b2 := b2.keep ((Chg.refl [] _).drew) (by simp)
    replace hch := hch.drew
    go_region_held3 (fun w' => w'.cell? ⟨w.heap.size, 0, none⟩ = some (.bool a.neg) ∧ w'.cell? ⟨w.heap.size, 1, none⟩ = some (.string a.num) ∧ w'.cell? ⟨w.heap.size, 2, none⟩ = some (.string a.den) ∧ w'.cell? ⟨(w.heap.size + 1), 0, none⟩ = some (.bool b.neg) ∧ w'.cell? ⟨(w.heap.size + 1), 1, none⟩ = some (.string b.num) ∧ w'.cell? ⟨(w.heap.size + 1), 2, none⟩ = some (.string b.den)) (first | exact ⟨b1.c0, b1.c1, b1.c2, b2.c0, b2.c1, b2.c2⟩ | exact ⟨by simp [go_sem, b1.c0], by simp [go_sem, b1.c1], by simp [go_sem, b1.c2], by simp [go_sem, b2.c0], by simp [go_sem, b2.c1], by simp [go_sem, b2.c2]⟩) (first
        | (go_at_call 75
           (with_reducible refine (denominator_any a _).mono ?_)
           rintro e w1 ⟨rfl, c1⟩
           replace b1 := b1.keep c1 (by simp)
           replace b2 := b2.keep c1 (by simp)
           replace hch := hch.then c1
           clear c1)
        | (go_at_call 75
           (with_reducible refine (denominator_any b _).mono ?_)
           rintro e w1 ⟨rfl, c1⟩
           replace b1 := b1.keep c1 (by simp)
           replace b2 := b2.keep c1 (by simp)
           replace hch := hch.then c1
           clear c1)
        | (go_at_call 93
           (with_reducible refine (multiply_any (dnS a) (dnS b) _ (by omega) (by omega)).mono ?_)
           rintro e w1 ⟨d, rfl, hs, c1⟩
           replace b1 := b1.keep c1 (by simp)
           replace b2 := b2.keep c1 (by simp)
           replace hch := hch.then c1
           have HD := Lib.hid (mul_is HA.out.dnS HB.out.dnS hs)
           clear hs
           clear c1))
    all_goals
      go_wp2_with fail
      go_ret3
      refine ⟨_, _, _, _, _, _, rfl, HX.out, HY.out, HD.out, Nat.mul_ne_zero p.den_nz q.den_nz, (sq_expand _ _ _ q.den_nz).trans HA.out.sq', ?_, mul_lt_pow BP.out.1 BQ.out.2, mul_lt_pow BQ.out.1 BP.out.2, mul_lt_pow BP.out.2 BQ.out.2, hch⟩
      rw [Nat.mul_comm p.den]
      exact (sq_expand _ _ _ p.den_nz).trans HB.out.sq'

end Go.Proofs.YtjmonodjnljhdaaGreatDoor
