/-
  Several parts put together: V2, V5.
-/
import Derived.Test.YtgdpcpbmjgaliaaGP
import Derived.Test.YtgdpcpbmjgaliaaGO
import Derived.Test.YtgdpcpbmjgaliaaGG
import Derived.Test.YtgdpcpbmjgaliaaGH
/- Part V2. -/

namespace Go.Proofs.Ytgdpcpbmjgaliaa
open Go.RowKit Nd

theorem rFixN (x : Q3) (p : Rat) (k : Nat) (w : World) (hx : Num x p k) (hk : k ≤ 1099511627776) :
    Calls Try.prog 52 #[.agg #[.bool x.neg, .string x.num, .string x.den]] w fun e w' => ∃ z, e = .returned (.agg #[.bool z.neg, .string z.num, .string z.den]) ∧ Val z p k ∧ Chg [] w w' := by
  have hb := hx.bd
  obtain rfl := hx.rat
  refine (rFix_any x w (Nat.le_trans hx.n1 hk) (Nat.le_trans hx.n2 hk)).mono ?_
  rintro e w1 ⟨z, rfl, hz, c1⟩
  exact ⟨z, rfl, ⟨hz, hb⟩, c1⟩

theorem Val.opp {x : Q3} {p : Rat} {k : Nat} (h : Val x p k) (h0 : p ≠ 0) : Val ⟨!x.neg, x.num, x.den⟩ (-p) k := by
  refine ⟨⟨?_, ?_, ?_⟩, h.bd.neg⟩
  · show (!x.neg) = _
    rw [h.enc.neg, Rat.neg_num]
    have : p.num ≠ 0 := fun hc => h0 (Rat.num_eq_zero.1 hc)
    by_cases h1 : p.num < 0
    · have h2 : ¬ -p.num < 0 := by omega
      rw [decide_eq_true h1, decide_eq_false h2]; rfl
    · have h2 : -p.num < 0 := by omega
      rw [decide_eq_false h1, decide_eq_true h2]; rfl
  · have := h.enc.num; rw [Rat.neg_num]; simpa using this
  · have := h.enc.den; simpa using this
theorem Sl.row_of {w : World} {v : Value} {L : List Nat} (h : Sl w v L) (h0 : L ≠ []) : ∃ g c, v = .slice (some ⟨g, 0, none⟩) L.length c ∧ Row 106 .u32 w g c L := by
  cases h with
  | nil => exact absurd rfl h0
  | row g c _ hr => exact ⟨g, c, rfl, hr⟩
theorem plus_pos (ga ca gb cb : Nat) (A C : List Nat) (w : World) (hA : Row 106 .u32 w ga ca A) (hC : Row 106 .u32 w gb cb C) (dA : dig 4294967296 A) (dC : dig 4294967296 C)
    (nA : noz A) (nC : noz C) (la : A.length ≤ 1099511627775) (lc : C.length ≤ 1099511627775) (h0 : lv 4294967296 A ≠ 0) :
    Calls Try.prog 76 #[.slice (some ⟨ga, 0, none⟩) A.length ca, .slice (some ⟨gb, 0, none⟩) C.length cb] w fun e w' => ∃ g c L, e = .returned (.slice (some ⟨g, 0, none⟩) L.length c) ∧
      Row 106 .u32 w' g c L ∧ dig 4294967296 L ∧ noz L ∧ lv 4294967296 L = lv 4294967296 A + lv 4294967296 C ∧ Chg [] w w' := by
  refine (plus_any ga ca gb cb A C w hA hC dA dC nA nC la lc).mono ?_
  rintro e w1 ⟨v, rfl, L, hs, dL, nL, vL, _, c1⟩
  obtain ⟨g, c, rfl, hr⟩ := hs.row_of (by rintro rfl; simp [lv] at vL; omega)
  exact ⟨g, c, L, rfl, hr, dL, nL, vL, c1⟩
theorem reduced_all (neg : Bool) (ga ca gb cb : Nat) (A C : List Nat) (w : World) (hA : Row 106 .u32 w ga ca A) (hC : Row 106 .u32 w gb cb C) (dA : dig 4294967296 A) (dC : dig 4294967296 C) (nA : noz A) (nC : noz C)
    (la : A.length ≤ 1099511627775) (lc : C.length ≤ 1099511627775) (zC : lv 4294967296 C ≠ 0) :
    Calls Try.prog 75 #[.bool neg, .slice (some ⟨ga, 0, none⟩) A.length ca, .slice (some ⟨gb, 0, none⟩) C.length cb] w fun e w' => ∃ x, e = .returned (.agg #[.bool x.neg, .string x.num, .string x.den]) ∧ Enc x (sq neg (lv 4294967296 A) (lv 4294967296 C)) ∧ Chg [] w w' := by
  by_cases h0 : lv 4294967296 A = 0
  · obtain rfl : A = [] := (lv_zero_iff (B := 4294967296) (by omega) A nA).1 h0
    refine (reduced_zero neg ga ca _ w).mono ?_
    rintro e w1 ⟨rfl, c1⟩
    exact ⟨⟨false, ⟨#[]⟩, ⟨#[]⟩⟩, rfl, by rw [h0, sq_zero]; exact Enc_zero, c1⟩
  · exact reduced_any neg ga ca gb cb A C w hA hC dA dC nA nC la lc h0 zC
/-- Two numbers over the product of their denominators. -/
theorem cross (p q : Rat) : p = sq (decide (p.num < 0)) (p.num.natAbs * q.den) (p.den * q.den) ∧ q = sq (decide (q.num < 0)) (q.num.natAbs * p.den) (p.den * q.den) := by
  refine ⟨by rw [sq_expand _ _ _ q.den_nz, sq_self], ?_⟩
  rw [Nat.mul_comm p.den q.den, sq_expand _ _ _ p.den_nz, sq_self]
theorem den2 (p q : Rat) : p.den * q.den ≠ 0 := Nat.mul_ne_zero p.den_nz q.den_nz
theorem plus_len {A C M : List Nat} {n : Nat} (nM : noz M) (dA : dig 4294967296 A) (dC : dig 4294967296 C) (la : A.length ≤ n) (lc : C.length ≤ n) (h : lv 4294967296 M = lv 4294967296 A + lv 4294967296 C) : M.length ≤ n + 1 := by
  by_cases hM : M = []
  · subst hM; simp
  · have h1 := lv_ge (B := 4294967296) M nM hM
    have h2 := Nat.lt_of_lt_of_le (lv_lt (by omega) A dA) (Nat.pow_le_pow_right (show 0 < 4294967296 by omega) la)
    have h3 := Nat.lt_of_lt_of_le (lv_lt (by omega) C dC) (Nat.pow_le_pow_right (show 0 < 4294967296 by omega) lc)
    have h4 : 4294967296 ^ (M.length - 1) < 4294967296 ^ (n + 1) := by rw [Nat.pow_succ]; omega
    have h5 := (Nat.pow_lt_pow_iff_right (show 1 < 4294967296 by omega)).1 h4
    have := List.length_pos_iff.2 hM
    omega

set_option maxRecDepth 20000 in
set_option maxHeartbeats 1000000 in
theorem rOpposite_any (x : Q3) (p : Rat) (k : Nat) (w : World) (hx : Val x p k) :
    Calls Try.prog 71 #[.agg #[.bool x.neg, .string x.num, .string x.den]] w fun e w' => ∃ z, e = .returned (.agg #[.bool z.neg, .string z.num, .string z.den]) ∧ Val z (-p) k ∧ Chg [] w w' := by
  obtain ⟨b1, b2, hch⟩ := box1 w x 33
  by_cases h0 : p = 0
  · have HR : Hid (Val x (-p) k) := by show Val _ _ _; subst h0; simpa using hx
    have hz := hx.zz h0
    clear h0 hx
    go_enter Try.func71, Try.ntmps71
    go_wp2_with fail
    exact bodyPost_ret (v := .agg #[.bool x.neg, .string x.num, .string x.den]) (by simp [results, Try.results71, go_sem]) rfl ⟨x, rfl, HR.out, ((Chg.refl _ _).alloc _).alloc _⟩
  · have HR := Lib.hid (hx.opp h0)
    have hz := hx.nz h0
    clear h0 hx
    obtain ⟨xn, xN, xD⟩ := x
    obtain ⟨yn, HY⟩ := name_it (!xn)
    simp only at HR b1 b2 hch hz
    have hy := HY.out
    rw [hy] at HR
    go_enter Try.func71, Try.ntmps71
    go_wp2_with fail
    exact bodyPost_ret (v := .agg #[.bool yn, .string xN, .string xD]) (by simp [results, Try.results71, go_sem]) rfl ⟨⟨yn, xN, xD⟩, rfl, HR.out, ((Chg.refl _ _).alloc _).alloc _⟩

end Go.Proofs.Ytgdpcpbmjgaliaa

/- Part V5. -/

namespace Go.Proofs.Ytgdpcpbmjgaliaa
open Go.RowKit Nd
set_option maxRecDepth 20000 in
set_option maxHeartbeats 2000000 in
theorem rPlus_any (x y : Q3) (p q : Rat) (k l : Nat) (w : World) (hx : Val x p k) (hy : Val y q l) (hk : k + l ≤ 34359738367) :
    Calls Try.prog 54 #[.agg #[.bool x.neg, .string x.num, .string x.den], .agg #[.bool y.neg, .string y.num, .string y.den]] w fun e w' => ∃ z, e = .returned (.agg #[.bool z.neg, .string z.num, .string z.den]) ∧ Val z (p + q) (k + l + 1) ∧ Chg [] w w' := by
  obtain ⟨b1, b2, b3, hch⟩ := box3 w x y 33
  by_cases h0 : p = 0
  · have HR : Hid (Val y (p + q) (k + l + 1)) := by show Val _ _ _; subst h0; rw [Rat.zero_add]; exact hy.mono (by omega)
    have hz := hx.zz h0
    clear h0 hx hy
    go_enter Try.func54, Try.ntmps54
    go_wp2_with fail
    exact bodyPost_ret (v := .agg #[.bool y.neg, .string y.num, .string y.den]) (by simp [results, Try.results54, go_sem]) rfl ⟨y, rfl, HR.out, (((Chg.refl _ _).alloc _).alloc _).alloc _⟩
  · by_cases h1 : q = 0
    · have HR : Hid (Val x (p + q) (k + l + 1)) := by show Val _ _ _; subst h1; rw [Rat.add_zero]; exact hx.mono (by omega)
      have hz := hx.nz h0
      have hz2 := hy.zz h1
      clear h0 h1 hx hy
      go_enter Try.func54, Try.ntmps54
      go_wp2_with fail
      exact bodyPost_ret (v := .agg #[.bool x.neg, .string x.num, .string x.den]) (by simp [results, Try.results54, go_sem]) rfl ⟨x, rfl, HR.out, (((Chg.refl _ _).alloc _).alloc _).alloc _⟩
    · have hz := hx.nz h0
      have hz2 := hy.nz h1
      have P0 := Lib.hid (nat0 h0)
      have Q0 := Lib.hid (nat0 h1)
      clear h0 h1
      have n1 := hx.n1
      have n2 := hx.n2
      have n3 := hy.n1
      have n4 := hy.n2
      have HX := Lib.hid hx
      have HY := Lib.hid hy
      clear hx hy
      go_enter Try.func54, Try.ntmps54
      go_wp2_with fail
      obtain ⟨w0, HWw0⟩ := name_it ((((w).alloc (.cells #[.bool x.neg, .string x.num, .string x.den] 33)).alloc (.cells #[.bool y.neg, .string y.num, .string y.den] 33)).alloc (.cells #[.bool false, .string ⟨#[]⟩, .string ⟨#[]⟩] 33))
      rw [HWw0.out] at b1 b2 b3 hch ⊢
      refine (rden_any x p _ HX.out.enc (by omega)).mono ?_
      rintro e w1 ⟨gp, cp, P, rfl, hP, dP, nP, vP, lP, c1⟩
      replace b1 := b1.keep c1 (by simp)
      replace b2 := b2.keep c1 (by simp)
      replace b3 := b3.keep c1 (by simp)
      replace hch := hch.then c1
      clear c1
      have VP := Lib.hid vP
      clear vP
      have b1c0 := b1.c0
      have b1c1 := b1.c1
      have b1c2 := b1.c2
      have b1f0 := b1.f0
      have b1f1 := b1.f1
      have b1f2 := b1.f2
      have b1l := b1.lt
      have b2c0 := b2.c0
      have b2c1 := b2.c1
      have b2c2 := b2.c2
      have b2f0 := b2.f0
      have b2f1 := b2.f1
      have b2f2 := b2.f2
      have b2l := b2.lt
      have b3c0 := b3.c0
      have b3c1 := b3.c1
      have b3c2 := b3.c2
      have b3f0 := b3.f0
      have b3f1 := b3.f1
      have b3f2 := b3.f2
      have b3l := b3.lt
      go_wp2_with fail
      refine (rden_any y q _ HY.out.enc (by omega)).mono ?_
      rintro e w1 ⟨gq, cq, Q, rfl, hQ, dQ, nQ, vQ, lQ, c1⟩
      clear b1c0 b1f0 b1c1 b1f1 b1c2 b1f2 b1l b2c0 b2f0 b2c1 b2f1 b2c2 b2f2 b2l b3c0 b3f0 b3c1 b3f1 b3c2 b3f2 b3l
      replace b1 := b1.keep c1 (by simp)
      replace b2 := b2.keep c1 (by simp)
      replace b3 := b3.keep c1 (by simp)
      replace hP := hP.keep c1 (by simp)
      replace hch := hch.then c1
      clear c1
      have VQ := Lib.hid vQ
      clear vQ
      have b1c0 := b1.c0
      have b1c1 := b1.c1
      have b1c2 := b1.c2
      have b1f0 := b1.f0
      have b1f1 := b1.f1
      have b1f2 := b1.f2
      have b1l := b1.lt
      have b2c0 := b2.c0
      have b2c1 := b2.c1
      have b2c2 := b2.c2
      have b2f0 := b2.f0
      have b2f1 := b2.f1
      have b2f2 := b2.f2
      have b2l := b2.lt
      have b3c0 := b3.c0
      have b3c1 := b3.c1
      have b3c2 := b3.c2
      have b3f0 := b3.f0
      have b3f1 := b3.f1
      have b3f2 := b3.f2
      have b3l := b3.lt
      go_wp2_with fail
      refine (limbs_any x.num _ (by omega)).mono ?_
      rintro e w1 ⟨ga, ca, A, rfl, hA, _, dA, nA, vA, lA, c1⟩
      clear b1c0 b1f0 b1c1 b1f1 b1c2 b1f2 b1l b2c0 b2f0 b2c1 b2f1 b2c2 b2f2 b2l b3c0 b3f0 b3c1 b3f1 b3c2 b3f2 b3l
      replace b1 := b1.keep c1 (by simp)
      replace b2 := b2.keep c1 (by simp)
      replace b3 := b3.keep c1 (by simp)
      replace hP := hP.keep c1 (by simp)
      replace hQ := hQ.keep c1 (by simp)
      replace hch := hch.then c1
      clear c1
      have VA := Lib.hid vA
      clear vA
      have b1c0 := b1.c0
      have b1c1 := b1.c1
      have b1c2 := b1.c2
      have b1f0 := b1.f0
      have b1f1 := b1.f1
      have b1f2 := b1.f2
      have b1l := b1.lt
      have b2c0 := b2.c0
      have b2c1 := b2.c1
      have b2c2 := b2.c2
      have b2f0 := b2.f0
      have b2f1 := b2.f1
      have b2f2 := b2.f2
      have b2l := b2.lt
      have b3c0 := b3.c0
      have b3c1 := b3.c1
      have b3c2 := b3.c2
      have b3f0 := b3.f0
      have b3f1 := b3.f1
      have b3f2 := b3.f2
      have b3l := b3.lt
      go_wp2_with fail
      refine (times_any ga ca gq cq A Q _ hA hQ dA dQ (by omega) (by omega)).mono ?_
      rintro e w1 ⟨gt, ct, T, rfl, hT, dT, nT, vT, lT, c1⟩
      clear b1c0 b1f0 b1c1 b1f1 b1c2 b1f2 b1l b2c0 b2f0 b2c1 b2f1 b2c2 b2f2 b2l b3c0 b3f0 b3c1 b3f1 b3c2 b3f2 b3l
      replace b1 := b1.keep c1 (by simp)
      replace b2 := b2.keep c1 (by simp)
      replace b3 := b3.keep c1 (by simp)
      replace hP := hP.keep c1 (by simp)
      replace hQ := hQ.keep c1 (by simp)
      replace hA := hA.keep c1 (by simp)
      replace hch := hch.then c1
      clear c1
      rw [VA.out, VQ.out, Is_val HX.out.enc.num] at vT
      have VT := Lib.hid vT
      clear vT
      have b1c0 := b1.c0
      have b1c1 := b1.c1
      have b1c2 := b1.c2
      have b1f0 := b1.f0
      have b1f1 := b1.f1
      have b1f2 := b1.f2
      have b1l := b1.lt
      have b2c0 := b2.c0
      have b2c1 := b2.c1
      have b2c2 := b2.c2
      have b2f0 := b2.f0
      have b2f1 := b2.f1
      have b2f2 := b2.f2
      have b2l := b2.lt
      have b3c0 := b3.c0
      have b3c1 := b3.c1
      have b3c2 := b3.c2
      have b3f0 := b3.f0
      have b3f1 := b3.f1
      have b3f2 := b3.f2
      have b3l := b3.lt
      go_wp2_with fail
      refine (limbs_any y.num _ (by omega)).mono ?_
      rintro e w1 ⟨gc, cc, C, rfl, hC, _, dC, nC, vC, lC, c1⟩
      clear b1c0 b1f0 b1c1 b1f1 b1c2 b1f2 b1l b2c0 b2f0 b2c1 b2f1 b2c2 b2f2 b2l b3c0 b3f0 b3c1 b3f1 b3c2 b3f2 b3l
      replace b1 := b1.keep c1 (by simp)
      replace b2 := b2.keep c1 (by simp)
      replace b3 := b3.keep c1 (by simp)
      replace hP := hP.keep c1 (by simp)
      replace hQ := hQ.keep c1 (by simp)
      replace hA := hA.keep c1 (by simp)
      replace hT := hT.keep c1 (by simp)
      replace hch := hch.then c1
      clear c1
      have VC := Lib.hid vC
      clear vC
      have b1c0 := b1.c0
      have b1c1 := b1.c1
      have b1c2 := b1.c2
      have b1f0 := b1.f0
      have b1f1 := b1.f1
      have b1f2 := b1.f2
      have b1l := b1.lt
      have b2c0 := b2.c0
      have b2c1 := b2.c1
      have b2c2 := b2.c2
      have b2f0 := b2.f0
      have b2f1 := b2.f1
      have b2f2 := b2.f2
      have b2l := b2.lt
      have b3c0 := b3.c0
      have b3c1 := b3.c1
      have b3c2 := b3.c2
      have b3f0 := b3.f0
      have b3f1 := b3.f1
      have b3f2 := b3.f2
      have b3l := b3.lt
      go_wp2_with fail
      refine (times_any gc cc gp cp C P _ hC hP dC dP (by omega) (by omega)).mono ?_
      rintro e w1 ⟨gs, cs, S, rfl, hS, dS, nS, vS, lS, c1⟩
      clear b1c0 b1f0 b1c1 b1f1 b1c2 b1f2 b1l b2c0 b2f0 b2c1 b2f1 b2c2 b2f2 b2l b3c0 b3f0 b3c1 b3f1 b3c2 b3f2 b3l
      replace b1 := b1.keep c1 (by simp)
      replace b2 := b2.keep c1 (by simp)
      replace b3 := b3.keep c1 (by simp)
      replace hP := hP.keep c1 (by simp)
      replace hQ := hQ.keep c1 (by simp)
      replace hA := hA.keep c1 (by simp)
      replace hT := hT.keep c1 (by simp)
      replace hC := hC.keep c1 (by simp)
      replace hch := hch.then c1
      clear c1
      rw [VC.out, VP.out, Is_val HY.out.enc.num] at vS
      have VS := Lib.hid vS
      clear vS
      have b1c0 := b1.c0
      have b1c1 := b1.c1
      have b1c2 := b1.c2
      have b1f0 := b1.f0
      have b1f1 := b1.f1
      have b1f2 := b1.f2
      have b1l := b1.lt
      have b2c0 := b2.c0
      have b2c1 := b2.c1
      have b2c2 := b2.c2
      have b2f0 := b2.f0
      have b2f1 := b2.f1
      have b2f2 := b2.f2
      have b2l := b2.lt
      have b3c0 := b3.c0
      have b3c1 := b3.c1
      have b3c2 := b3.c2
      have b3f0 := b3.f0
      have b3f1 := b3.f1
      have b3f2 := b3.f2
      have b3l := b3.lt
      go_wp2_with fail
      refine (times_any gp cp gq cq P Q _ hP hQ dP dQ (by omega) (by omega)).mono ?_
      rintro e w1 ⟨gd, cd, D, rfl, hD, dD, nD, vD, lD, c1⟩
      clear b1c0 b1f0 b1c1 b1f1 b1c2 b1f2 b1l b2c0 b2f0 b2c1 b2f1 b2c2 b2f2 b2l b3c0 b3f0 b3c1 b3f1 b3c2 b3f2 b3l
      replace b1 := b1.keep c1 (by simp)
      replace b2 := b2.keep c1 (by simp)
      replace b3 := b3.keep c1 (by simp)
      replace hP := hP.keep c1 (by simp)
      replace hQ := hQ.keep c1 (by simp)
      replace hA := hA.keep c1 (by simp)
      replace hT := hT.keep c1 (by simp)
      replace hC := hC.keep c1 (by simp)
      replace hS := hS.keep c1 (by simp)
      replace hch := hch.then c1
      clear c1
      rw [VP.out, VQ.out] at vD
      have VD := Lib.hid vD
      clear vD
      clear hz hz2
      have D0 := Lib.hid (show lv 4294967296 D ≠ 0 by rw [VD.out]; exact den2 p q)
      have la : T.length ≤ 1099511627774 := by omega
      have lb : S.length ≤ 1099511627774 := by omega
      have lc : D.length ≤ 1099511627775 := by omega
      clear hA hC hP hQ lP lQ lA lC lT lS lD n1 n2 n3 n4
      have T0 := Lib.hid (show lv 4294967296 T ≠ 0 by rw [VT.out]; exact Nat.mul_ne_zero P0.out q.den_nz)
      have HB := Lib.hid (HX.out.bd.add HY.out.bd)
      by_cases hn : x.neg = y.neg
      · have hnb : (x.neg == y.neg) = true := by rw [hn]; simp
        have HN := Lib.hid hn
        clear hn
        have b1c0 := b1.c0
        have b1c1 := b1.c1
        have b1c2 := b1.c2
        have b1f0 := b1.f0
        have b1f1 := b1.f1
        have b1f2 := b1.f2
        have b1l := b1.lt
        have b2c0 := b2.c0
        have b2c1 := b2.c1
        have b2c2 := b2.c2
        have b2f0 := b2.f0
        have b2f1 := b2.f1
        have b2f2 := b2.f2
        have b2l := b2.lt
        have b3c0 := b3.c0
        have b3c1 := b3.c1
        have b3c2 := b3.c2
        have b3f0 := b3.f0
        have b3f1 := b3.f1
        have b3f2 := b3.f2
        have b3l := b3.lt
        go_wp2_with fail
        clear b1c0 b1f0 b1c1 b1f1 b1c2 b1f2 b1l b2c0 b2f0 b2c1 b2f1 b2c2 b2f2 b2l b3c0 b3f0 b3c1 b3f1 b3c2 b3f2 b3l
        clear hnb
        obtain ⟨w2, HW2⟩ := name_it w1
        rw [HW2.out] at b1 b2 b3 hT hS hD hch ⊢
        replace b1 := b1.keep ((Chg.refl [] _).drew) (by simp)
        replace b2 := b2.keep ((Chg.refl [] _).drew) (by simp)
        replace b3 := b3.keep ((Chg.refl [] _).drew) (by simp)
        replace hT := hT.keep ((Chg.refl [] _).drew) (by simp)
        replace hS := hS.keep ((Chg.refl [] _).drew) (by simp)
        replace hD := hD.keep ((Chg.refl [] _).drew) (by simp)
        replace hch := hch.drew
        go_region_held3 (fun w' => w'.cell? ⟨w.heap.size, 0, none⟩ = some (.bool x.neg) ∧ w'.cell? ⟨w.heap.size, 1, none⟩ = some (.string x.num) ∧ w'.cell? ⟨w.heap.size, 2, none⟩ = some (.string x.den) ∧ w'.cell? ⟨w.heap.size + 1, 0, none⟩ = some (.bool y.neg) ∧ w'.cell? ⟨w.heap.size + 1, 1, none⟩ = some (.string y.num) ∧ w'.cell? ⟨w.heap.size + 1, 2, none⟩ = some (.string y.den)) (first | exact ⟨b1.c0, b1.c1, b1.c2, b2.c0, b2.c1, b2.c2⟩ | exact ⟨by simp [go_sem, b1.c0], by simp [go_sem, b1.c1], by simp [go_sem, b1.c2], by simp [go_sem, b2.c0], by simp [go_sem, b2.c1], by simp [go_sem, b2.c2]⟩) (first
            | (go_at_call 76
               (with_reducible refine (plus_pos gt ct gs cs T S _ hT hS dT dS nT nS (by omega) (by omega) T0.out).mono ?_)
               rintro e w1 ⟨gm, cm, M, rfl, hM, dM, nM, vM, c1⟩
               replace b1 := b1.keep c1 (by simp)
               replace b2 := b2.keep c1 (by simp)
               replace b3 := b3.keep c1 (by simp)
               replace hT := hT.keep c1 (by simp)
               replace hS := hS.keep c1 (by simp)
               replace hD := hD.keep c1 (by simp)
               replace hch := hch.then c1
               have lm : M.length ≤ 1099511627775 := Nat.le_trans (plus_len (n := 1099511627774) nM dT dS (by omega) (by omega) vM) (by omega)
               rw [VT.out, VS.out] at vM
               have VM := Lib.hid vM
               clear vM
               clear c1)
            | (go_at_call 75
               (with_reducible refine (reduced_all _ gm cm gd cd M D _ hM hD dM dD nM nD lm lc D0.out).mono ?_)
               rintro e w1 ⟨z, rfl, hz, c1⟩
               replace b1 := b1.keep c1 (by simp)
               replace b2 := b2.keep c1 (by simp)
               replace b3 := b3.keep c1 (by simp)
               replace hT := hT.keep c1 (by simp)
               replace hS := hS.keep c1 (by simp)
               replace hD := hD.keep c1 (by simp)
               replace hch := hch.then c1
               have HZ : Hid (Enc z (p + q)) := by
                 show Enc _ _
                 have h := hz
                 rw [VM.out, VD.out, ← sum_same _ (den2 p q), HX.out.enc.neg, ← (cross p q).1, ← HX.out.enc.neg, HN.out, HY.out.enc.neg, ← (cross p q).2] at h
                 exact h
               clear hz
               have b3c0 := b3.c0
               have b3c1 := b3.c1
               have b3c2 := b3.c2
               have b3f0 := b3.f0
               have b3f1 := b3.f1
               have b3f2 := b3.f2
               clear c1))
        all_goals
          go_wp2_with fail
          have S := b3.store (.bool z.neg) (.string z.num) (.string z.den)
          exact bodyPost_ret (v := .agg #[.bool z.neg, .string z.num, .string z.den]) (by simp [results, Try.results54, go_sem, S.c0, S.c1, S.c2]) rfl ⟨z, rfl, ⟨HZ.out, HB.out⟩, hch.store3 (.inr (by omega)) _ _ _⟩
      · have hnb : (x.neg == y.neg) = false := by simpa using hn
        have HN := Lib.hid hn
        clear hn
        have b1c0 := b1.c0
        have b1c1 := b1.c1
        have b1c2 := b1.c2
        have b1f0 := b1.f0
        have b1f1 := b1.f1
        have b1f2 := b1.f2
        have b1l := b1.lt
        have b2c0 := b2.c0
        have b2c1 := b2.c1
        have b2c2 := b2.c2
        have b2f0 := b2.f0
        have b2f1 := b2.f1
        have b2f2 := b2.f2
        have b2l := b2.lt
        have b3c0 := b3.c0
        have b3c1 := b3.c1
        have b3c2 := b3.c2
        have b3f0 := b3.f0
        have b3f1 := b3.f1
        have b3f2 := b3.f2
        have b3l := b3.lt
        go_wp2_with fail
        refine (order_any gt ct gs cs T S _ hT hS dT dS nT nS).mono ?_
        rintro e w1 ⟨rfl, c1⟩
        clear b1c0 b1f0 b1c1 b1f1 b1c2 b1f2 b1l b2c0 b2f0 b2c1 b2f1 b2c2 b2f2 b2l b3c0 b3f0 b3c1 b3f1 b3c2 b3f2 b3l
        replace b1 := b1.keep c1 (by simp)
        replace b2 := b2.keep c1 (by simp)
        replace b3 := b3.keep c1 (by simp)
        replace hT := hT.keep c1 (by simp)
        replace hS := hS.keep c1 (by simp)
        replace hD := hD.keep c1 (by simp)
        replace hch := hch.then c1
        clear c1
        clear hnb
        have ho : (lv 4294967296 T < lv 4294967296 S ∧ ord (lv 4294967296 T) (lv 4294967296 S) = -1) ∨ (lv 4294967296 S ≤ lv 4294967296 T ∧ (ord (lv 4294967296 T) (lv 4294967296 S) = 0 ∨ ord (lv 4294967296 T) (lv 4294967296 S) = 1)) := by
          unfold ord
          by_cases h : lv 4294967296 T < lv 4294967296 S
          · exact .inl ⟨h, by rw [if_pos h]⟩
          · refine .inr ⟨by omega, ?_⟩
            rw [if_neg h]
            split <;> simp
        rcases ho with ⟨hlt, ho⟩ | ⟨hge, ho | ho⟩
        · rw [ho]
          clear ho
          have HL := Lib.hid hlt
          clear hlt
          have b1c0 := b1.c0
          have b1c1 := b1.c1
          have b1c2 := b1.c2
          have b1f0 := b1.f0
          have b1f1 := b1.f1
          have b1f2 := b1.f2
          have b1l := b1.lt
          have b2c0 := b2.c0
          have b2c1 := b2.c1
          have b2c2 := b2.c2
          have b2f0 := b2.f0
          have b2f1 := b2.f1
          have b2f2 := b2.f2
          have b2l := b2.lt
          have b3c0 := b3.c0
          have b3c1 := b3.c1
          have b3c2 := b3.c2
          have b3f0 := b3.f0
          have b3f1 := b3.f1
          have b3f2 := b3.f2
          have b3l := b3.lt
          go_wp2_with fail
          clear b1c0 b1f0 b1c1 b1f1 b1c2 b1f2 b1l b2c0 b2f0 b2c1 b2f1 b2c2 b2f2 b2l b3c0 b3f0 b3c1 b3f1 b3c2 b3f2 b3l
          obtain ⟨w2, HW2⟩ := name_it w1
          rw [HW2.out] at b1 b2 b3 hT hS hD hch ⊢
          replace b1 := b1.keep ((Chg.refl [] _).drew) (by simp)
          replace b2 := b2.keep ((Chg.refl [] _).drew) (by simp)
          replace b3 := b3.keep ((Chg.refl [] _).drew) (by simp)
          replace hT := hT.keep ((Chg.refl [] _).drew) (by simp)
          replace hS := hS.keep ((Chg.refl [] _).drew) (by simp)
          replace hD := hD.keep ((Chg.refl [] _).drew) (by simp)
          replace hch := hch.drew
          go_region_held3 (fun w' => w'.cell? ⟨w.heap.size, 0, none⟩ = some (.bool x.neg) ∧ w'.cell? ⟨w.heap.size, 1, none⟩ = some (.string x.num) ∧ w'.cell? ⟨w.heap.size, 2, none⟩ = some (.string x.den) ∧ w'.cell? ⟨w.heap.size + 1, 0, none⟩ = some (.bool y.neg) ∧ w'.cell? ⟨w.heap.size + 1, 1, none⟩ = some (.string y.num) ∧ w'.cell? ⟨w.heap.size + 1, 2, none⟩ = some (.string y.den)) (first | exact ⟨b1.c0, b1.c1, b1.c2, b2.c0, b2.c1, b2.c2⟩ | exact ⟨by simp [go_sem, b1.c0], by simp [go_sem, b1.c1], by simp [go_sem, b1.c2], by simp [go_sem, b2.c0], by simp [go_sem, b2.c1], by simp [go_sem, b2.c2]⟩) (first
              | (go_at_call 78
                 (with_reducible refine (minus_any gs cs gt ct S T _ hS hT dS dT nT (by omega) (Nat.le_of_lt HL.out)).mono ?_)
                 rintro e w1 ⟨gm, cm, M, rfl, hM, dM, nM, vM, lM, c1⟩
                 replace b1 := b1.keep c1 (by simp)
                 replace b2 := b2.keep c1 (by simp)
                 replace b3 := b3.keep c1 (by simp)
                 replace hT := hT.keep c1 (by simp)
                 replace hS := hS.keep c1 (by simp)
                 replace hD := hD.keep c1 (by simp)
                 replace hch := hch.then c1
                 have lm : M.length ≤ 1099511627775 := by omega
                 rw [VT.out, VS.out] at vM
                 have VM := Lib.hid vM
                 clear vM
                 clear c1)
              | (go_at_call 75
                 (with_reducible refine (reduced_all _ gm cm gd cd M D _ hM hD dM dD nM nD lm lc D0.out).mono ?_)
                 rintro e w1 ⟨z, rfl, hz, c1⟩
                 replace b1 := b1.keep c1 (by simp)
                 replace b2 := b2.keep c1 (by simp)
                 replace b3 := b3.keep c1 (by simp)
                 replace hT := hT.keep c1 (by simp)
                 replace hS := hS.keep c1 (by simp)
                 replace hD := hD.keep c1 (by simp)
                 replace hch := hch.then c1
                 have HZ : Hid (Enc z (p + q)) := by
                   show Enc _ _
                   have h := hz
                   have hl := HL.out
                   rw [VT.out, VS.out] at hl
                   rw [VM.out, VD.out, ← sum_lt x.neg y.neg (den2 p q) HN.out (Nat.le_of_lt hl), HX.out.enc.neg, ← (cross p q).1, HY.out.enc.neg, ← (cross p q).2] at h
                   exact h
                 clear hz
                 have b3c0 := b3.c0
                 have b3c1 := b3.c1
                 have b3c2 := b3.c2
                 have b3f0 := b3.f0
                 have b3f1 := b3.f1
                 have b3f2 := b3.f2
                 clear c1))
          all_goals
            go_wp2_with fail
            have S := b3.store (.bool z.neg) (.string z.num) (.string z.den)
            exact bodyPost_ret (v := .agg #[.bool z.neg, .string z.num, .string z.den]) (by simp [results, Try.results54, go_sem, S.c0, S.c1, S.c2]) rfl ⟨z, rfl, ⟨HZ.out, HB.out⟩, hch.store3 (.inr (by omega)) _ _ _⟩
        · rw [ho]
          clear ho
          have HL := Lib.hid hge
          clear hge
          have b1c0 := b1.c0
          have b1c1 := b1.c1
          have b1c2 := b1.c2
          have b1f0 := b1.f0
          have b1f1 := b1.f1
          have b1f2 := b1.f2
          have b1l := b1.lt
          have b2c0 := b2.c0
          have b2c1 := b2.c1
          have b2c2 := b2.c2
          have b2f0 := b2.f0
          have b2f1 := b2.f1
          have b2f2 := b2.f2
          have b2l := b2.lt
          have b3c0 := b3.c0
          have b3c1 := b3.c1
          have b3c2 := b3.c2
          have b3f0 := b3.f0
          have b3f1 := b3.f1
          have b3f2 := b3.f2
          have b3l := b3.lt
          go_wp2_with fail
          clear b1c0 b1f0 b1c1 b1f1 b1c2 b1f2 b1l b2c0 b2f0 b2c1 b2f1 b2c2 b2f2 b2l b3c0 b3f0 b3c1 b3f1 b3c2 b3f2 b3l
          obtain ⟨w2, HW2⟩ := name_it w1
          rw [HW2.out] at b1 b2 b3 hT hS hD hch ⊢
          replace b1 := b1.keep ((Chg.refl [] _).drew) (by simp)
          replace b2 := b2.keep ((Chg.refl [] _).drew) (by simp)
          replace b3 := b3.keep ((Chg.refl [] _).drew) (by simp)
          replace hT := hT.keep ((Chg.refl [] _).drew) (by simp)
          replace hS := hS.keep ((Chg.refl [] _).drew) (by simp)
          replace hD := hD.keep ((Chg.refl [] _).drew) (by simp)
          replace hch := hch.drew
          go_region_held3 (fun w' => w'.cell? ⟨w.heap.size, 0, none⟩ = some (.bool x.neg) ∧ w'.cell? ⟨w.heap.size, 1, none⟩ = some (.string x.num) ∧ w'.cell? ⟨w.heap.size, 2, none⟩ = some (.string x.den) ∧ w'.cell? ⟨w.heap.size + 1, 0, none⟩ = some (.bool y.neg) ∧ w'.cell? ⟨w.heap.size + 1, 1, none⟩ = some (.string y.num) ∧ w'.cell? ⟨w.heap.size + 1, 2, none⟩ = some (.string y.den)) (first | exact ⟨b1.c0, b1.c1, b1.c2, b2.c0, b2.c1, b2.c2⟩ | exact ⟨by simp [go_sem, b1.c0], by simp [go_sem, b1.c1], by simp [go_sem, b1.c2], by simp [go_sem, b2.c0], by simp [go_sem, b2.c1], by simp [go_sem, b2.c2]⟩) (first
              | (go_at_call 78
                 (with_reducible refine (minus_any gt ct gs cs T S _ hT hS dT dS nS (by omega) HL.out).mono ?_)
                 rintro e w1 ⟨gm, cm, M, rfl, hM, dM, nM, vM, lM, c1⟩
                 replace b1 := b1.keep c1 (by simp)
                 replace b2 := b2.keep c1 (by simp)
                 replace b3 := b3.keep c1 (by simp)
                 replace hT := hT.keep c1 (by simp)
                 replace hS := hS.keep c1 (by simp)
                 replace hD := hD.keep c1 (by simp)
                 replace hch := hch.then c1
                 have lm : M.length ≤ 1099511627775 := by omega
                 rw [VT.out, VS.out] at vM
                 have VM := Lib.hid vM
                 clear vM
                 clear c1)
              | (go_at_call 75
                 (with_reducible refine (reduced_all _ gm cm gd cd M D _ hM hD dM dD nM nD lm lc D0.out).mono ?_)
                 rintro e w1 ⟨z, rfl, hz, c1⟩
                 replace b1 := b1.keep c1 (by simp)
                 replace b2 := b2.keep c1 (by simp)
                 replace b3 := b3.keep c1 (by simp)
                 replace hT := hT.keep c1 (by simp)
                 replace hS := hS.keep c1 (by simp)
                 replace hD := hD.keep c1 (by simp)
                 replace hch := hch.then c1
                 have HZ : Hid (Enc z (p + q)) := by
                   show Enc _ _
                   have h := hz
                   have hl := HL.out
                   rw [VT.out, VS.out] at hl
                   rw [VM.out, VD.out, ← sum_ge x.neg y.neg (den2 p q) HN.out hl, HX.out.enc.neg, ← (cross p q).1, HY.out.enc.neg, ← (cross p q).2] at h
                   exact h
                 clear hz
                 have b3c0 := b3.c0
                 have b3c1 := b3.c1
                 have b3c2 := b3.c2
                 have b3f0 := b3.f0
                 have b3f1 := b3.f1
                 have b3f2 := b3.f2
                 clear c1))
          all_goals
            go_wp2_with fail
            have S := b3.store (.bool z.neg) (.string z.num) (.string z.den)
            exact bodyPost_ret (v := .agg #[.bool z.neg, .string z.num, .string z.den]) (by simp [results, Try.results54, go_sem, S.c0, S.c1, S.c2]) rfl ⟨z, rfl, ⟨HZ.out, HB.out⟩, hch.store3 (.inr (by omega)) _ _ _⟩
        · rw [ho]
          clear ho
          have HL := Lib.hid hge
          clear hge
          have b1c0 := b1.c0
          have b1c1 := b1.c1
          have b1c2 := b1.c2
          have b1f0 := b1.f0
          have b1f1 := b1.f1
          have b1f2 := b1.f2
          have b1l := b1.lt
          have b2c0 := b2.c0
          have b2c1 := b2.c1
          have b2c2 := b2.c2
          have b2f0 := b2.f0
          have b2f1 := b2.f1
          have b2f2 := b2.f2
          have b2l := b2.lt
          have b3c0 := b3.c0
          have b3c1 := b3.c1
          have b3c2 := b3.c2
          have b3f0 := b3.f0
          have b3f1 := b3.f1
          have b3f2 := b3.f2
          have b3l := b3.lt
          go_wp2_with fail
          clear b1c0 b1f0 b1c1 b1f1 b1c2 b1f2 b1l b2c0 b2f0 b2c1 b2f1 b2c2 b2f2 b2l b3c0 b3f0 b3c1 b3f1 b3c2 b3f2 b3l
          obtain ⟨w2, HW2⟩ := name_it w1
          rw [HW2.out] at b1 b2 b3 hT hS hD hch ⊢
          replace b1 := b1.keep ((Chg.refl [] _).drew) (by simp)
          replace b2 := b2.keep ((Chg.refl [] _).drew) (by simp)
          replace b3 := b3.keep ((Chg.refl [] _).drew) (by simp)
          replace hT := hT.keep ((Chg.refl [] _).drew) (by simp)
          replace hS := hS.keep ((Chg.refl [] _).drew) (by simp)
          replace hD := hD.keep ((Chg.refl [] _).drew) (by simp)
          replace hch := hch.drew
          go_region_held3 (fun w' => w'.cell? ⟨w.heap.size, 0, none⟩ = some (.bool x.neg) ∧ w'.cell? ⟨w.heap.size, 1, none⟩ = some (.string x.num) ∧ w'.cell? ⟨w.heap.size, 2, none⟩ = some (.string x.den) ∧ w'.cell? ⟨w.heap.size + 1, 0, none⟩ = some (.bool y.neg) ∧ w'.cell? ⟨w.heap.size + 1, 1, none⟩ = some (.string y.num) ∧ w'.cell? ⟨w.heap.size + 1, 2, none⟩ = some (.string y.den)) (first | exact ⟨b1.c0, b1.c1, b1.c2, b2.c0, b2.c1, b2.c2⟩ | exact ⟨by simp [go_sem, b1.c0], by simp [go_sem, b1.c1], by simp [go_sem, b1.c2], by simp [go_sem, b2.c0], by simp [go_sem, b2.c1], by simp [go_sem, b2.c2]⟩) (first
              | (go_at_call 78
                 (with_reducible refine (minus_any gt ct gs cs T S _ hT hS dT dS nS (by omega) HL.out).mono ?_)
                 rintro e w1 ⟨gm, cm, M, rfl, hM, dM, nM, vM, lM, c1⟩
                 replace b1 := b1.keep c1 (by simp)
                 replace b2 := b2.keep c1 (by simp)
                 replace b3 := b3.keep c1 (by simp)
                 replace hT := hT.keep c1 (by simp)
                 replace hS := hS.keep c1 (by simp)
                 replace hD := hD.keep c1 (by simp)
                 replace hch := hch.then c1
                 have lm : M.length ≤ 1099511627775 := by omega
                 rw [VT.out, VS.out] at vM
                 have VM := Lib.hid vM
                 clear vM
                 clear c1)
              | (go_at_call 75
                 (with_reducible refine (reduced_all _ gm cm gd cd M D _ hM hD dM dD nM nD lm lc D0.out).mono ?_)
                 rintro e w1 ⟨z, rfl, hz, c1⟩
                 replace b1 := b1.keep c1 (by simp)
                 replace b2 := b2.keep c1 (by simp)
                 replace b3 := b3.keep c1 (by simp)
                 replace hT := hT.keep c1 (by simp)
                 replace hS := hS.keep c1 (by simp)
                 replace hD := hD.keep c1 (by simp)
                 replace hch := hch.then c1
                 have HZ : Hid (Enc z (p + q)) := by
                   show Enc _ _
                   have h := hz
                   have hl := HL.out
                   rw [VT.out, VS.out] at hl
                   rw [VM.out, VD.out, ← sum_ge x.neg y.neg (den2 p q) HN.out hl, HX.out.enc.neg, ← (cross p q).1, HY.out.enc.neg, ← (cross p q).2] at h
                   exact h
                 clear hz
                 have b3c0 := b3.c0
                 have b3c1 := b3.c1
                 have b3c2 := b3.c2
                 have b3f0 := b3.f0
                 have b3f1 := b3.f1
                 have b3f2 := b3.f2
                 clear c1))
          all_goals
            go_wp2_with fail
            have S := b3.store (.bool z.neg) (.string z.num) (.string z.den)
            exact bodyPost_ret (v := .agg #[.bool z.neg, .string z.num, .string z.den]) (by simp [results, Try.results54, go_sem, S.c0, S.c1, S.c2]) rfl ⟨z, rfl, ⟨HZ.out, HB.out⟩, hch.store3 (.inr (by omega)) _ _ _⟩

end Go.Proofs.Ytgdpcpbmjgaliaa
