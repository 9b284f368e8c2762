/-
  Law 3: LinearNull.
-/
import Derived.Test.YtgdidakkfdcajaaLB2
import Derived.Test.YtgdidakkfdcajaaLM4
namespace Go.Proofs.Ytgdidakkfdcajaa
open Go.RowKit Nd

theorem vals_shape {M : List (List Q3)} {F : Nat → Nat → Rat} {n m k : Nat} (h : Vals M F n m k) (hn0 : 0 < n) (hn : n ≤ 16) (hm0 : 0 < m) (hm : m ≤ 16) : shapeE M = 0 := by
  refine shapeE_good (by rw [h.len]; omega) (by rw [h.row 0 hn0]; omega) (fun i hi => by rw [h.row i (by rw [← h.len]; exact hi), h.row 0 hn0]) (by rw [h.len]; exact hn) (by rw [h.row 0 hn0]; exact hm)
theorem vals_fits {M : List (List Q3)} {F : Nat → Nat → Rat} {n m k : Nat} (h : Vals M F n m k) {l : Nat} (hl : k ≤ l) (hn0 : 0 < n) : ∀ i, i < M.length → ∀ j, j < (M.getD 0 []).length → fits ((M.getD i []).getD j q0) l := by
  intro i hi j hj
  rw [h.row 0 hn0] at hj
  exact ((h.val i (by rw [← h.len]; exact hi) j hj).mono hl).num.fit
/-- The product with a vector of the kernel. -/
theorem ker_rows {M : List (List Q3)} {F : Nat → Nat → Rat} {n m k K c : Nat} {xs : List Q3} (_ : Vals M F n m k) (hc : c ∉ (ech (matQ M) n m).2) (hcm : c < m) (hx : Row1 xs (kvF (ech (matQ M) n m).1 (ech (matQ M) n m).2 c (ech (matQ M) n m).2.length) m K) (i : Nat) (hi : i < n) :
    sumF (fun j => ratOf ((M.getD i []).getD j q0) * ratOf (xs.getD j q0)) m = 0 := by
  have := ker_null (matQ M) hc hcm i hi
  unfold dotF at this
  rw [← this]
  exact sumF_congr fun j hj => by rw [(hx.val j hj).num.rat]; rfl

set_option maxRecDepth 20000 in
set_option maxHeartbeats 8000000 in
theorem lnull_any (r c : Int) (L : List Int) (l : Nat) (A : Option Addr) (cap : Nat) (w : World) (hr : 0 ≤ r ∧ r ≤ 255) (hc : 0 ≤ c ∧ c ≤ 255) (hl : L.length = l) (hl2 : l ≤ 9223372036854775807) (hL : ∀ x, x ∈ L → 0 ≤ x ∧ x ≤ 65535) (hx : RdW w A L) :
    Calls Try.prog 7 #[.int .u8 r, .int .u8 c, .slice A l cap] w fun e w' => e = .returned (.bool true) ∧ Chg [] w w' := by
  obtain ⟨r1, r2⟩ := hr
  obtain ⟨c1', c2'⟩ := hc
  obtain ⟨n, Hn⟩ : ∃ n : Nat, Hid (1 + r % 4 = (n : Int)) := ⟨(1 + r % 4).toNat, Lib.hid (by omega)⟩
  obtain ⟨m, Hm⟩ : ∃ m : Nat, Hid (1 + c % 5 = (m : Int)) := ⟨(1 + c % 5).toNat, Lib.hid (by omega)⟩
  have hn0 : 0 < n := by have := Hn.out; omega
  have hn : n ≤ 4 := by have := Hn.out; omega
  have hm0 : 0 < m := by have := Hm.out; omega
  have hm : m ≤ 5 := by have := Hm.out; omega
  have hch : Chg [] w w := Chg.refl _ _
  have HMX := Lib.hid (matrix_any n m L l A cap w hn0 (by omega) hm0 (by omega) hl hl2 hL hx)
  have hKF : KF m 1 + 8 ≤ 3000 := by
    have h9 : KK (1 + (1 + m * 1)) m ≤ KK (1 + (1 + 5 * 1)) 5 := by
      unfold KK
      have h8 : (1 + (1 + m * 1) + 1) * 2 ^ m ≤ (1 + (1 + 5 * 1) + 1) * 2 ^ 5 := Nat.mul_le_mul (by omega) (Nat.pow_le_pow_right (by omega) hm)
      omega
    have h7 : KK (1 + (1 + 5 * 1)) 5 = 255 := by decide
    unfold KF; omega
  clear hl hL hx
  go_enter Try.func7, Try.ntmps7
  go_wp2_with fail
  rw [Hn.out, Hm.out]
  refine HMX.out.mono ?_
  rintro e w1 ⟨g, cp, M, h, cc, rfl, hD, hV, _, _, c1⟩
  replace hch := hch.then c1
  have hM := hD.mtx hV.len hV.row
  have HSH := Lib.hid (vals_shape hV hn0 (by omega) hm0 (by omega))
  have HF1 := Lib.hid (vals_fits hV (show 1 ≤ 1 by omega) hn0)
  have HFK := Lib.hid (vals_fits hV (show 1 ≤ 3000 by omega) hn0)
  have HROW := Lib.hid (fun cx xs K h1 h2 h3 => ker_rows (c := cx) (xs := xs) (K := K) hV h1 h2 h3)
  have HL0 := Lib.hid hV.len
  have HM0 := Lib.hid (hV.row 0 hn0)
  have HRK := Lib.hid (kcols_rank (matQ M) n m)
  have HNI := Lib.hid (fun i hi => (⟨kcols_notin m i hi, kcols_lt _ m i hi⟩ : (kcols (ech (matQ M) n m).2 m).getD i 0 ∉ (ech (matQ M) n m).2 ∧ (kcols (ech (matQ M) n m).2 m).getD i 0 < m))
  have HKE := Lib.hid (fun u (hu : Mtx u (some ⟨g, 0, none⟩) M) => Kernel_ok M (some ⟨g, 0, none⟩) cp 1 u (by rw [HL0.out]; omega) hu HSH.out (by omega) (by omega) HF1.out)
  have HRA := Lib.hid (fun u (hu : Mtx u (some ⟨g, 0, none⟩) M) => Rank_ok M (some ⟨g, 0, none⟩) cp 1 u (by rw [HL0.out]; omega) hu HSH.out (by omega) (by omega) HF1.out)
  have HAP := Lib.hid (fun u xs B cb (hu : Mtx u (some ⟨g, 0, none⟩) M) (hb : Rds u B xs) (hxl : xs.length = m) (hf : ∀ j, j < m → fits (xs.getD j q0) 3000) => Apply_ok M xs (some ⟨g, 0, none⟩) B cp cb 3000 u (by rw [HL0.out]; omega) hu hb HSH.out (by rw [HM0.out]; exact hxl) (by omega) (by omega) HFK.out (by rw [HM0.out]; exact hf))
  rw [HL0.out, HM0.out] at HKE HRA HAP
  clear c1 hD hV
  obtain ⟨F, HF⟩ := name_it (ech (matQ M) n m).1
  obtain ⟨pv, HPV⟩ := name_it (ech (matQ M) n m).2
  rw [HF.out, HPV.out] at HKE HROW
  rw [HPV.out] at HRA HRK HNI
  obtain ⟨d, HD⟩ := name_it (kcols pv m).length
  rw [HD.out] at HRK HNI
  obtain ⟨p, HP⟩ := name_it pv.length
  rw [HP.out] at HRK HRA
  have hsum : d + p = m := HRK.out
  go_wp2_with fail
  refine (HKE.out _ hM).mono ?_
  rintro e w2 ⟨v, KM, rfl, hMV, hKR, c1⟩
  obtain ⟨A2, cp2, rfl, _, _, hm2⟩ := hMV.mtx
  have hkl : KM.length = d := by rw [hKR.len, HD.out]
  rw [hkl]
  have HKL := Lib.hid hkl
  have HKR := Lib.hid hKR
  have HM2 := Lib.hid hm2
  replace hM := hM.keep0 c1
  replace hch := hch.then c1
  clear c1 hMV hKR hm2 hkl
  go_wp2_with fail
  refine (HRA.out _ hM).mono ?_
  rintro e w3 ⟨rfl, c1⟩
  have HM3 := Lib.hid (HM2.out.keep0 c1)
  replace hM := hM.keep0 c1
  have HMM := Lib.hid hM
  replace hch := hch.then c1
  clear c1 hM HM2
  go_wp2_with fail
  go_loopw [44] (fun iv wr => ∃ i : Nat, i ≤ d ∧ iv = .int .i64 i ∧ Chg [] w3 wr) (fun iv _ => d - (intOf iv).toNat)
  case atStart => exact ⟨0, Nat.zero_le _, rfl, Chg.refl _ _⟩
  case round =>
    obtain ⟨i, hi, rfl, hc1⟩ := hrel
    by_cases hlt : i < d
    · have d0 : decide ((i : Int) < (d : Int)) = true := decide_eq_true (by omega)
      have hM3 := HM3.out.keep0 hc1
      obtain ⟨ga, oa, rfl, hga⟩ := hM3.form (by rw [HKL.out]; omega)
      obtain ⟨Br, cr, hcl, _, _, hB⟩ := hM3.row (i := i) (by rw [HKL.out]; exact hlt)
      have hrw := HKR.out.row i (by rw [HKL.out]; exact hlt)
      have hni := HNI.out i hlt
      obtain ⟨xs, HXS⟩ := name_it (KM.getD i [])
      rw [HXS.out] at hcl hB hrw
      rw [hrw.len] at hcl
      have HZ := Lib.hid (fun t ht => HROW.out _ xs _ hni.1 hni.2 hrw t ht)
      have HXL := Lib.hid hrw.len
      have HXF := Lib.hid (fun j hj => ((hrw.val j hj).mono hKF).num.fit)
      have hM4 := HMM.out.keep0 hc1
      have i1 : (0 : Int) ≤ (i : Int) := by omega
      have i2 : (i : Int) < (d : Int) := by omega
      clear hrw hni hM3
      have hclc := hcl.c
      go_wp2_with fail
      rw [← HXL.out]
      refine (HAP.out _ xs Br cr hM4 hB HXL.out HXF.out).mono ?_
      rintro e w4 ⟨gy, ys, rfl, _, hR, hN, c4⟩
      rw [HXL.out]
      have HY : Hid (∀ t, t < n → Val (ys.getD t q0) 0 (m * (3000 + 3000 + 2))) := Lib.hid fun t ht => by
        have := hR.val t ht
        rw [HZ.out t ht] at this
        exact this
      have HYL := Lib.hid hR.len
      have HYR := Lib.hid hN.rds
      have hc4 := hc1.then c4
      obtain ⟨KY, HKY⟩ := name_it (m * (3000 + 3000 + 2))
      rw [HKY.out] at HY
      have hky : KY ≤ 100000 := by rw [← HKY.out]; omega
      have n1 : ((n : Int) != (n : Int)) = false := by simp
      clear hR hN c4 hc1 hM4 hB hcl hclc
      go_wp2_with fail
      go_loopw [64] (fun jv wx => ∃ j : Nat, j ≤ n ∧ jv = .int .i64 j ∧ Chg [] w4 wx) (fun jv _ => n - (intOf jv).toNat)
      case atStart => exact ⟨0, Nat.zero_le _, rfl, Chg.refl _ _⟩
      case round =>
        obtain ⟨j, hj, rfl, hc5⟩ := hrel
        by_cases hjn : j < n
        · have d1 : decide ((j : Int) < (n : Int)) = true := decide_eq_true (by omega)
          have e1 := (HYR.out.keep0 hc5).el (j := j) (by rw [HYL.out]; exact hjn)
          have hv := HY.out j hjn
          obtain ⟨y, HYY⟩ := name_it (ys.getD j q0)
          rw [HYY.out] at e1 hv
          rw [Nat.zero_add] at e1
          have HV := Lib.hid hv
          have j1 : (0 : Int) ≤ (j : Int) := by omega
          have j2 : (j : Int) < (n : Int) := by omega
          clear hv
          have e1a := e1.a
          have e1b := e1.b
          have e1c := e1.c
          go_wp2_with fail
          refine (SignN y 0 KY _ HV.out.num (by omega)).mono ?_
          rintro e w6 ⟨rfl, c6⟩
          have hsg : sg 0 = 0 := by decide
          rw [hsg]
          have hc6 := (hc5.alloc (.cells #[.bool y.neg, .string y.num, .string y.den] 35)).then c6
          clear c6 hc5 hsg
          clear e1a e1b e1c
          clear e1
          go_wp2_with fail
          go_roundw
          case rel => exact ⟨j + 1, by omega, by go_num, hc6⟩
          case measure => simp [intOf]; omega
        · obtain rfl : n = j := by omega
          go_wp2_with fail
          go_roundw
          case rel => exact ⟨i + 1, by omega, by go_num, hc4.then hc5⟩
          case measure => simp [intOf]; omega
    · obtain rfl : d = i := by omega
      have eq1 : ((p : Int) + (d : Int) == (m : Int)) = true := by simp; omega
      go_wp2_with fail
      refine (awake3_any _).mono ?_
      rintro e w5 ⟨rfl, c5⟩
      go_wp2_with fail
      go_ret
      exact ⟨rfl, (hch.then hc1).then c5⟩
end Go.Proofs.Ytgdidakkfdcajaa
