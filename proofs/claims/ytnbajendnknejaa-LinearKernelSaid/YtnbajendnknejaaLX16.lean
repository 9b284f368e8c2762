/-
  Solve.
-/
import Derived.Test.YtnbajendnknejaaLX15
namespace Go.Proofs.Ytnbajendnknejaa
open Go.RowKit Nd
/-- The numbers of a matrix with a further column. -/
def augQ (M : List (List Q3)) (xs : List Q3) (n : Nat) : Nat → Nat → Rat := fun i j => if j < n then matQ M i j else ratOf (xs.getD i q0)
/-- The bound of the solution's parts. -/
def KS (n k : Nat) : Nat := KK (k + (1 + (n + 1) * k)) n + KK (k + (1 + (n + 1) * k)) n

set_option maxRecDepth 20000 in
set_option maxHeartbeats 4000000 in
theorem Solve_sing (M : List (List Q3)) (xs : List Q3) (A B : Option Addr) (cap cb : Nat) (k : Nat) (w : World) (hx : Mtx w A M) (hb : Rds w B xs) (hs : squareE M = 0) (hxl : xs.length = M.length) (hk : 1 ≤ k) (hk2 : k ≤ 3000) (hfit : ∀ i, i < M.length → ∀ j, j < (M.getD 0 []).length → fits ((M.getD i []).getD j q0) k) (hfx : ∀ j, j < M.length → fits (xs.getD j q0) k) (hlen : (ech (augQ M xs M.length) M.length M.length).2.length < M.length) :
    Calls Try.prog 31 #[.slice A M.length cap, .slice B xs.length cb] w fun e w' => e = .returned (.tuple #[.slice none 0 0, .int .i64 5]) ∧ Chg [] w w' := by
  have SQ := squareE_ok hs
  obtain ⟨s0, s1, s2, s3, s4⟩ := shapeE_ok SQ.1
  have hmm := SQ.2
  have HS0 := Lib.hid hs
  have HX := Lib.hid hx
  have HB := Lib.hid hb
  obtain ⟨n, HN⟩ := name_it M.length
  rw [HN.out] at s0 s3 hxl hlen hmm
  rw [← hmm] at s1 s4 s2 hfit
  rw [HN.out] at s2 hfit hfx
  have HROW := Lib.hid s2
  have HFIT := Lib.hid hfit
  have HFX := Lib.hid hfx
  have HXL := Lib.hid hxl
  clear s2 hfit hfx
  rw [hxl]
  rw [HN.out]
  obtain ⟨ga, oa, rfl, hga⟩ := hx.form (by rw [HN.out]; omega)
  obtain ⟨n1, HN1⟩ := name_it (n + 1)
  obtain ⟨F, HF⟩ := name_it (augQ M xs n)
  rw [HF.out] at hlen
  have hk1 : n1 * k ≤ 17 * 3000 := Nat.mul_le_mul (by have := HN1.out; omega) hk2
  have hK0 : k + (1 + n1 * k) ≤ 60000 := by omega
  have HKK := Lib.hid (KK_small (K := k + (1 + n1 * k)) (m := n) hK0 s4)
  have HB8 : Hid (8 + (n + 1) * (1 + n1 * k) ≤ 4294967296) := Lib.hid (by
    have h2 : (n + 1) * (1 + n1 * k) ≤ 17 * 51001 := Nat.mul_le_mul (by omega) (by omega)
    omega)
  have HK1 : Hid (1 ≤ k + (1 + n1 * k)) := Lib.hid (by omega)
  have hn1s : n1 ≤ 17 := by have := HN1.out; omega
  have HLEN := Lib.hid hlen
  have hch : Chg [] w w := Chg.refl _ _
  have hne : ((n : Int) != (n : Int)) = false := by simp
  clear hk1 hK0 hlen hs hx hb SQ hmm hxl
  go_enter Try.func31, Try.ntmps31
  go_wp2_with fail
  rw [← HN.out]
  refine (checkSquare_any M _ cap _ (by rw [HN.out]; omega) HX.out).mono ?_
  rintro e w1 ⟨rfl, c1⟩
  rw [HS0.out, HN.out]
  replace hch := hch.then c1
  clear c1
  go_wp2_with fail
  refine (extended_any M xs n n _ B cap cb _ HN.out HROW.out HXL.out (by omega) (by omega) (HX.out.keep0 hch) (HB.out.keep0 hch)).mono ?_
  rintro e w2 ⟨g1, M1, rfl, hg1, hM1, hl1, hrow1, c1⟩
  replace hch := hch.then c1
  clear c1
  have hxm := Lib.hid hM1.mtx
  have hrl1 : Hid (∀ i, i < n → (M1.getD i []).length = n1) := Lib.hid fun i hi => by rw [hrow1 i hi, List.length_append, HROW.out i hi]; exact HN1.out
  have hq1 : Hid (∀ i, i < n → ∀ j, j < n1 → ratOf ((M1.getD i []).getD j q0) = F i j) := Lib.hid fun i hi j hj => by
    rw [hrow1 i hi, ← HF.out, getD_snocM, HROW.out i hi]
    unfold augQ matQ
    by_cases h : j = n
    · rw [if_pos h, if_neg (by omega)]
    · rw [if_neg h, if_pos (by have := HN1.out; omega)]
  have hf1 : Hid (∀ i, i < n → ∀ j, j < n1 → fits ((M1.getD i []).getD j q0) k) := Lib.hid fun i hi j hj => by
    rw [hrow1 i hi, getD_snocM, HROW.out i hi]
    by_cases h : j = n
    · rw [if_pos h]; exact HFX.out i hi
    · rw [if_neg h]; exact HFIT.out i hi j (by have := HN1.out; omega)
  have HL1 := Lib.hid hl1
  clear hM1 hrow1 hl1
  go_wp2_with fail
  refine (integral_any M1 n n1 k _ n _ HL1.out hrl1.out hf1.out hk (by omega) (by omega) HB8.out (by omega) hxm.out).mono ?_
  rintro e w3 ⟨g, M2, E, t, z, rfl, hg, hM2, hV2, ht, hz, c1⟩
  have hgw : w.heap.size ≤ g := Nat.le_trans hch.size hg
  have HV2 := Lib.hid hV2
  have hPE : Hid (Prp (ratI E) F n n1) := Lib.hid (prp_of (t := t) fun i hi => ⟨(ht i hi).1, fun j hj => by rw [(ht i hi).2 j hj, hq1.out i hi j hj]⟩)
  replace hch := hch.then c1
  clear c1 ht hV2 hxm hz
  have b1 := Blk3.alloc w3 (.bool z.neg) (.string z.num) (.string z.den) 49
  replace hch := hch.then ((Chg.refl [] _).alloc (.cells #[.bool z.neg, .string z.num, .string z.den] 49))
  obtain ⟨gb1, Gb1⟩ := name_it w3.heap.size
  rw [Gb1.out] at b1
  have hgb1 := Gb1.out
  obtain ⟨wb1, HWb1⟩ := name_it (w3.alloc (.cells #[.bool z.neg, .string z.num, .string z.den] 49))
  rw [HWb1.out] at b1 hch
  have hM := hM2.keep0 ((Chg.refl [] w3).alloc (.cells #[.bool z.neg, .string z.num, .string z.den] 49))
  rw [HWb1.out] at hM
  go_wp2_with fail
  rw [HWb1.out]
  refine (eliminate_any M2 E n n1 (k + (1 + n1 * k)) n g n _ HV2.out HK1.out (by have := HN1.out; omega) (by omega) (by omega) HKK.out hM).mono ?_
  rintro e w4 ⟨gp, cp, M3, E2, rfl, hrow, hgp, hV3, hP3, hM3, c1⟩
  replace hch := hch.fresh c1 hgw
  have hpe := hPE.out.ech n (by have := HN1.out; omega)
  have HP3 := Lib.hid (hP3.trans hpe.2)
  rw [hpe.1]
  have HV3 := Lib.hid hV3
  clear c1 hpe hP3 hV3 hM hM2 hrow b1
  have hl := HLEN.out
  obtain ⟨r0, HR0⟩ := name_it (ech F n n).2.length
  rw [HR0.out] at hl ⊢
  have t1 : decide ((r0 : Int) < (n : Int)) = true := by simp; omega
  go_wp2_with fail
  go_ret2
  exact ⟨rfl, hch⟩

set_option maxRecDepth 20000 in
set_option maxHeartbeats 8000000 in
theorem Solve_ok (M : List (List Q3)) (xs : List Q3) (A B : Option Addr) (cap cb : Nat) (k : Nat) (w : World) (hx : Mtx w A M) (hb : Rds w B xs) (hs : squareE M = 0) (hxl : xs.length = M.length) (hk : 1 ≤ k) (hk2 : k ≤ 3000) (hfit : ∀ i, i < M.length → ∀ j, j < (M.getD 0 []).length → fits ((M.getD i []).getD j q0) k) (hfx : ∀ j, j < M.length → fits (xs.getD j q0) k) (hlen : (ech (augQ M xs M.length) M.length M.length).2.length = M.length) :
    Calls Try.prog 31 #[.slice A M.length cap, .slice B xs.length cb] w fun e w' => ∃ g zs, e = .returned (.tuple #[.slice (some ⟨g, 0, none⟩) M.length M.length, .int .i64 0]) ∧ w.heap.size ≤ g ∧ Row1 zs (fun r => (ech (augQ M xs M.length) M.length M.length).1 r M.length) M.length (KS M.length k) ∧ Nums w' g M.length zs ∧ Chg [] w w' := by
  have SQ := squareE_ok hs
  obtain ⟨s0, s1, s2, s3, s4⟩ := shapeE_ok SQ.1
  have hmm := SQ.2
  have HS0 := Lib.hid hs
  have HX := Lib.hid hx
  have HB := Lib.hid hb
  obtain ⟨n, HN⟩ := name_it M.length
  rw [HN.out] at s0 s3 hxl hlen hmm
  rw [← hmm] at s1 s4 s2 hfit
  rw [HN.out] at s2 hfit hfx
  have HROW := Lib.hid s2
  have HFIT := Lib.hid hfit
  have HFX := Lib.hid hfx
  have HXL := Lib.hid hxl
  clear s2 hfit hfx
  rw [hxl]
  rw [HN.out]
  obtain ⟨ga, oa, rfl, hga⟩ := hx.form (by rw [HN.out]; omega)
  obtain ⟨n1, HN1⟩ := name_it (n + 1)
  obtain ⟨F, HF⟩ := name_it (augQ M xs n)
  rw [HF.out] at hlen
  have hk1 : n1 * k ≤ 17 * 3000 := Nat.mul_le_mul (by have := HN1.out; omega) hk2
  have hK0 : k + (1 + n1 * k) ≤ 60000 := by omega
  have HKK := Lib.hid (KK_small (K := k + (1 + n1 * k)) (m := n) hK0 s4)
  have HB8 : Hid (8 + (n + 1) * (1 + n1 * k) ≤ 4294967296) := Lib.hid (by
    have h2 : (n + 1) * (1 + n1 * k) ≤ 17 * 51001 := Nat.mul_le_mul (by omega) (by omega)
    omega)
  have HK1 : Hid (1 ≤ k + (1 + n1 * k)) := Lib.hid (by omega)
  have hn1s : n1 ≤ 17 := by have := HN1.out; omega
  have HLEN := Lib.hid hlen
  have hch : Chg [] w w := Chg.refl _ _
  have hne : ((n : Int) != (n : Int)) = false := by simp
  rw [HF.out]
  obtain ⟨f, Hf⟩ := name_it (ech F n n).1
  rw [Hf.out]
  obtain ⟨K, HK⟩ := name_it (KK (k + (1 + n1 * k)) n)
  have hKS : KS n k = K + K := by unfold KS; rw [HN1.out, HK.out]
  rw [hKS]
  clear hk1 hK0 hlen hs hx hb SQ hmm hxl
  go_enter Try.func31, Try.ntmps31
  go_wp2_with fail
  rw [← HN.out]
  refine (checkSquare_any M _ cap _ (by rw [HN.out]; omega) HX.out).mono ?_
  rintro e w1 ⟨rfl, c1⟩
  rw [HS0.out, HN.out]
  replace hch := hch.then c1
  clear c1
  go_wp2_with fail
  refine (extended_any M xs n n _ B cap cb _ HN.out HROW.out HXL.out (by omega) (by omega) (HX.out.keep0 hch) (HB.out.keep0 hch)).mono ?_
  rintro e w2 ⟨g1, M1, rfl, hg1, hM1, hl1, hrow1, c1⟩
  replace hch := hch.then c1
  clear c1
  have hxm := Lib.hid hM1.mtx
  have hrl1 : Hid (∀ i, i < n → (M1.getD i []).length = n1) := Lib.hid fun i hi => by rw [hrow1 i hi, List.length_append, HROW.out i hi]; exact HN1.out
  have hq1 : Hid (∀ i, i < n → ∀ j, j < n1 → ratOf ((M1.getD i []).getD j q0) = F i j) := Lib.hid fun i hi j hj => by
    rw [hrow1 i hi, ← HF.out, getD_snocM, HROW.out i hi]
    unfold augQ matQ
    by_cases h : j = n
    · rw [if_pos h, if_neg (by omega)]
    · rw [if_neg h, if_pos (by have := HN1.out; omega)]
  have hf1 : Hid (∀ i, i < n → ∀ j, j < n1 → fits ((M1.getD i []).getD j q0) k) := Lib.hid fun i hi j hj => by
    rw [hrow1 i hi, getD_snocM, HROW.out i hi]
    by_cases h : j = n
    · rw [if_pos h]; exact HFX.out i hi
    · rw [if_neg h]; exact HFIT.out i hi j (by have := HN1.out; omega)
  have HL1 := Lib.hid hl1
  clear hM1 hrow1 hl1
  go_wp2_with fail
  refine (integral_any M1 n n1 k _ n _ HL1.out hrl1.out hf1.out hk (by omega) (by omega) HB8.out (by omega) hxm.out).mono ?_
  rintro e w3 ⟨g, M2, E, t, z, rfl, hg, hM2, hV2, ht, hz, c1⟩
  have hgw : w.heap.size ≤ g := Nat.le_trans hch.size hg
  have HV2 := Lib.hid hV2
  have hPE : Hid (Prp (ratI E) F n n1) := Lib.hid (prp_of (t := t) fun i hi => ⟨(ht i hi).1, fun j hj => by rw [(ht i hi).2 j hj, hq1.out i hi j hj]⟩)
  replace hch := hch.then c1
  clear c1 ht hV2 hxm hz
  have b1 := Blk3.alloc w3 (.bool z.neg) (.string z.num) (.string z.den) 49
  replace hch := hch.then ((Chg.refl [] _).alloc (.cells #[.bool z.neg, .string z.num, .string z.den] 49))
  obtain ⟨gb1, Gb1⟩ := name_it w3.heap.size
  rw [Gb1.out] at b1
  have hgb1 := Gb1.out
  obtain ⟨wb1, HWb1⟩ := name_it (w3.alloc (.cells #[.bool z.neg, .string z.num, .string z.den] 49))
  rw [HWb1.out] at b1 hch
  have hM := hM2.keep0 ((Chg.refl [] w3).alloc (.cells #[.bool z.neg, .string z.num, .string z.den] 49))
  rw [HWb1.out] at hM
  go_wp2_with fail
  rw [HWb1.out]
  refine (eliminate_any M2 E n n1 (k + (1 + n1 * k)) n g n _ HV2.out HK1.out (by have := HN1.out; omega) (by omega) (by omega) HKK.out hM).mono ?_
  rintro e w4 ⟨gp, cp, M3, E2, rfl, hrow, hgp, hV3, hP3, hM3, c1⟩
  replace hch := hch.fresh c1 hgw
  have hpe := hPE.out.ech n (by have := HN1.out; omega)
  have HP3 := Lib.hid (hP3.trans hpe.2)
  rw [hpe.1]
  have HV3 := Lib.hid hV3
  clear c1 hpe hP3 hV3 hM hM2 hrow b1
  rw [HLEN.out]
  have EH := Lib.hid (ech_holds F n n)
  have HFO : Hid (∀ r, r < n → ratI E2 r r ≠ 0 ∧ ratI E2 r n / ratI E2 r r = (ech F n n).1 r n) := Lib.hid fun r hr => by
    have hr2 : r < (ech F n n).2.length := by rw [HLEN.out]; exact hr
    have h1 := HP3.out.form EH.out hr2 (by have := EH.out.lt r hr2; have := HN1.out; omega) (show n < n1 by have := HN1.out; omega)
    rwa [asc_full HLEN.out (ech_asc F n n) EH.out.lt r hr] at h1
  rw [Hf.out] at HFO
  rw [HK.out] at HV3 HKK
  have hKl := HKK.out
  have t1 : decide ((n : Int) < (n : Int)) = false := by simp
  have hg0 := hM3.lt
  go_wp2_with (at_make; refine wpList_make3 _ rfl (.tmp 38) (.tmp 38) rfl _ _ n rfl rfl rfl rfl (by omega) ?_)
  intro w5 hz c1
  obtain ⟨gx, HG⟩ := name_it w4.heap.size
  rw [HG.out] at hz hg0 ⊢
  have hgx : w.heap.size ≤ gx := by rw [← HG.out]; exact hch.size
  have hM4 := (hM3.regs (hs := [gx]) (fun x hx => .inr (by simp at hx; have := HG.out; omega))).keep0 c1
  replace hch := hch.then c1
  clear c1 hM3
  go_wp2_with fail
  go_loopw [42] (fun iv wr => ∃ (i : Nat) (zs : List Q3), i ≤ n ∧ iv = .int .i64 i ∧ zs.length = n ∧ (∀ r, r < i → Val (zs.getD r q0) (f r n) (K + K)) ∧ Nums wr gx n zs ∧ Mut wr [gx] g n M3 ∧ Chg [] w wr) (fun iv _ => n - (intOf iv).toNat)
  case atStart => exact ⟨0, _, Nat.zero_le _, rfl, by simp, fun r h => absurd h (by omega), hz, hM4, hch⟩
  case round =>
    clear hz hM4 hch
    obtain ⟨i, zs, hi, rfl, hlz, hval, hz, hM4, hch⟩ := hrel
    have HVAL := Lib.hid hval
    clear hval
    by_cases hlt : i < n
    · have R1 := Lib.hid (HV3.out.at_ hlt)
      have hl3 := HV3.out.len
      obtain ⟨B2, c2, d0, hd1, hd2, hB2, oB2⟩ := hM4.at_ (i := i) (by omega)
      have hFO := HFO.out i hlt
      obtain ⟨y, HY⟩ := name_it (M3.getD i [])
      rw [HY.out] at d0 hd1 hB2 oB2 R1
      have hyl := R1.out.len
      rw [hyl] at d0
      have hnn : n < n1 := by have := HN1.out; omega
      obtain ⟨g2, o2, rfl, _⟩ := hB2.form (by omega)
      have e1 := hB2.el (j := n) (by omega)
      have e2 := hB2.el (j := i) (by omega)
      have v1 := R1.out.val n hnn
      have v2 := R1.out.val i (by omega)
      obtain ⟨x1, HX1⟩ := name_it (y.getD n q0)
      obtain ⟨x2, HX2⟩ := name_it (y.getD i q0)
      rw [HX1.out] at e1 v1
      rw [HX2.out] at e2 v2
      obtain ⟨p, HP⟩ := name_it (ratI E2 i n)
      obtain ⟨q, HQ⟩ := name_it (ratI E2 i i)
      rw [HP.out] at v1 hFO
      rw [HQ.out] at v2 hFO
      have HQ0 := Lib.hid hFO.1
      have HPQ := Lib.hid hFO.2
      have hgg : g2 ≠ gx := fun h => oB2 (by omega) _ rfl (by simp [h])
      have j1 : (0 : Int) ≤ (i : Int) := by omega
      have j2 : (i : Int) < (n : Int) := by omega
      have j3 : (i : Int) < (n1 : Int) := by omega
      have j4 : (n : Int) < (n1 : Int) := by omega
      have a0 := e1.a
      have a1 := e1.b
      have a2 := e1.c
      have b0 := e2.a
      have b1 := e2.b
      have b2 := e2.c
      have ex := e1
      have ey := e2
      have hM4l := hM4.lt
      have hggx : g ≠ gx := by omega
      clear e1 e2 hi hFO oB2 hB2 hd1
      go_wp2_with fail
      clear a0 a1 a2 b0 b1 b2 d0
      have c8 : Chg [] wr wr.drew := (Chg.refl _ _).drew
      replace ex := ex.keep0 c8
      replace ey := ey.keep0 c8
      replace hz := hz.keep c8 (by simp)
      replace hM4 := hM4.keep0 c8
      replace hch := hch.then c8
      clear c8
      go_region_held3 (fun w' => w'.cell? ⟨g2, o2 + n * 3, none⟩ = some (.bool x1.neg) ∧ w'.cell? ⟨g2, o2 + n * 3 + 1, none⟩ = some (.string x1.num) ∧ w'.cell? ⟨g2, o2 + n * 3 + 2, none⟩ = some (.string x1.den) ∧ w'.cell? ⟨g2, o2 + i * 3, none⟩ = some (.bool x2.neg) ∧ w'.cell? ⟨g2, o2 + i * 3 + 1, none⟩ = some (.string x2.num) ∧ w'.cell? ⟨g2, o2 + i * 3 + 2, none⟩ = some (.string x2.den)) (first | exact ⟨ex.a, ex.b, ex.c, ey.a, ey.b, ey.c⟩ | exact ⟨(ex.st hgg _ _ _).a, (ex.st hgg _ _ _).b, (ex.st hgg _ _ _).c, (ey.st hgg _ _ _).a, (ey.st hgg _ _ _).b, (ey.st hgg _ _ _).c⟩) (first
          | (go_at_call 53
             (with_reducible refine (DivideN x1 x2 p q K K _ v1.num v2.num HQ0.out (by omega)).mono ?_)
             rintro e w9 ⟨z, rfl, hzv, c1⟩
             replace ex := ex.keep0 c1
             replace ey := ey.keep0 c1
             replace hz := hz.keep c1 (by simp)
             replace hM4 := hM4.keep0 c1
             replace hch := hch.then c1
             clear c1
             obtain ⟨s0, s1, s2⟩ := hz.rds.zero_at (j := i) (by omega)
             have s3 := hz.frozen (i * 3)
             have s4 := hz.frozen (i * 3 + 1)
             have s5 := hz.frozen (i * 3 + 2)))
      all_goals
        rw [HPQ.out] at hzv
        have HNX := Lib.hid (nums_set (P := fun t z => Val z (f t n) (K + K)) (z := z) (by omega : i < zs.length) HVAL.out hzv)
        clear hzv
        go_wp2_with fail
        go_roundw
        case rel => exact ⟨i + 1, zs.set i z, by omega, by go_num, by rw [List.length_set]; exact hlz, HNX.out, hz.store (by omega) z, hM4.keepg ((Chg.refl [gx] _).store3o (.inl (by simp)) _ _ _) (by simpa using hggx) (fun x hx => hx), hch.store3o (.inr hgx) _ _ _⟩
        case measure => simp [intOf]; omega
    · obtain rfl : i = n := by omega
      go_wp2_with fail
      go_ret2
      exact ⟨gx, zs, rfl, hgx, ⟨hlz, HVAL.out⟩, hz, hch⟩

end Go.Proofs.Ytnbajendnknejaa
