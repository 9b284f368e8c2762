/-
  Law 3: LinearSolution.
-/
import Derived.Test.YtgdidakkfdcajaaLX26
import Derived.Test.YtgdidakkfdcajaaLM7
import Derived.Test.YtgdidakkfdcajaaLA24
namespace Go.Proofs.Ytgdidakkfdcajaa
open Go.RowKit Nd

theorem vals_square {M : List (List Q3)} {F : Nat → Nat → Rat} {n k : Nat} (h : Vals M F n n k) (hn0 : 0 < n) (hn : n ≤ 16) : squareE M = 0 :=
  squareE_zero (vals_shape h hn0 hn hn0 hn) (by rw [h.len, h.row 0 hn0])
theorem sg_nil0 : sg 0 = 0 := by decide
theorem sg_ne {q : Rat} (h : q ≠ 0) : sg q = 1 ∨ sg q = -1 := sg_one2 h

set_option maxRecDepth 20000 in
set_option maxHeartbeats 3000000 in
theorem lsolution_any (s : Int) (L R : List Int) (l r : Nat) (A B : Option Addr) (cap cb : Nat) (w : World) (hs : 0 ≤ s ∧ s ≤ 255) (hl : L.length = l) (hl2 : l ≤ 9223372036854775807) (hL : ∀ x, x ∈ L → 0 ≤ x ∧ x ≤ 65535) (hx : RdW w A L) (hrl : R.length = r) (hr2 : r ≤ 9223372036854775807) (hR : ∀ x, x ∈ R → 0 ≤ x ∧ x ≤ 65535) (hy : RdW w B R) :
    Calls Try.prog 6 #[.int .u8 s, .slice A l cap, .slice B r cb] w fun e w' => e = .returned (.bool true) ∧ Chg [] w w' := by
  obtain ⟨r1, r2⟩ := hs
  obtain ⟨n, Hn⟩ : ∃ n : Nat, Hid (1 + s % 4 = (n : Int)) := ⟨(1 + s % 4).toNat, Lib.hid (by omega)⟩
  have hn0 : 0 < n := by have := Hn.out; omega
  have hn : n ≤ 4 := by have := Hn.out; omega
  have hch : Chg [] w w := Chg.refl _ _
  have HMX := Lib.hid (matrix_any n n L l A cap w hn0 (by omega) hn0 (by omega) hl hl2 hL hx)
  have HMY := Lib.hid (fun u (hu : RdW u B R) => matrix_any 1 n R r B cb u (by omega) (by omega) hn0 (by omega) hrl hr2 hR hu)
  have HY := Lib.hid hy
  have hKS : KS n 1 ≤ 3000 := by
    unfold KS KK
    have h8 : (1 + (1 + (n + 1) * 1) + 1) * 2 ^ n ≤ (1 + (1 + (4 + 1) * 1) + 1) * 2 ^ 4 := Nat.mul_le_mul (by omega) (Nat.pow_le_pow_right (by omega) hn)
    omega
  have hKD : KK (1 + (1 + n * 1)) n + (8 + n * (1 + n * 1)) ≤ 100000 := by
    unfold KK
    have h8 : (1 + (1 + n * 1) + 1) * 2 ^ n ≤ (1 + (1 + 4 * 1) + 1) * 2 ^ 4 := Nat.mul_le_mul (by omega) (Nat.pow_le_pow_right (by omega) hn)
    have h9 : n * (1 + n * 1) ≤ 4 * (1 + 4 * 1) := Nat.mul_le_mul hn (by omega)
    omega
  clear hl hL hx hrl hR hy
  go_enter Try.func6, Try.ntmps6
  go_wp2_with fail
  rw [Hn.out]
  refine HMX.out.mono ?_
  rintro e w1 ⟨g, cp, M, h, cc, rfl, hD, hV, _, _, c1⟩
  replace hch := hch.then c1
  have hM := hD.mtx hV.len hV.row
  have HV := Lib.hid hV
  clear c1 hD hV
  go_wp2_with fail
  refine (HMY.out _ (HY.out.keep0 hch)).mono ?_
  rintro e w2 ⟨gb, cpb, Mb, hb, cb2, rfl, hDb, hVb, _, _, c1⟩
  replace hch := hch.then c1
  replace hM := hM.keep0 c1
  have hMb := hDb.mtx hVb.len hVb.row
  have hcel := hDb.cel (i := 0) (by omega)
  have hnum := hDb.nums (i := 0) (by omega)
  have hrow := hVb.at_ (i := 0) (by omega)
  obtain ⟨bs, HBS⟩ := name_it (Mb.getD 0 [])
  rw [HBS.out] at hnum hrow
  obtain ⟨g0, HG0⟩ := name_it (hb 0)
  obtain ⟨c0, HC0⟩ := name_it (cb2 0)
  rw [HG0.out, HC0.out] at hcel
  rw [HG0.out, HC0.out] at hnum
  have hrb := hnum.rds
  have HRW := Lib.hid hrow
  have HBL := Lib.hid hrow.len
  clear c1 hDb hVb hMb hnum hrow
  have hcelc := hcel.c
  go_wp2_with fail
  clear hcelc
  clear hcel
  have HSQ := Lib.hid (vals_square HV.out hn0 (by omega))
  have HSH := Lib.hid (vals_shape HV.out hn0 (by omega) hn0 (by omega))
  have HF1 := Lib.hid (vals_fits HV.out (show 1 ≤ 1 by omega) hn0)
  have HFK := Lib.hid (vals_fits HV.out (show 1 ≤ 3000 by omega) hn0)
  have HML := Lib.hid HV.out.len
  have HM0 := Lib.hid (HV.out.row 0 hn0)
  have HFB : Hid (∀ j, j < n → fits (bs.getD j q0) 1) := Lib.hid fun j hj => (HRW.out.val j hj).num.fit
  have HSING := Lib.hid (fun u (hu : Mtx u (some ⟨g, 0, none⟩) M) (hv : Rds u (some ⟨g0, 0, none⟩) bs) => Solve_sing M bs (some ⟨g, 0, none⟩) (some ⟨g0, 0, none⟩) cp c0 1 u hu hv HSQ.out (by rw [HBL.out, HML.out]) (by omega) (by omega) HF1.out (by rw [HML.out]; exact HFB.out))
  have HSOK := Lib.hid (fun u (hu : Mtx u (some ⟨g, 0, none⟩) M) (hv : Rds u (some ⟨g0, 0, none⟩) bs) => Solve_ok M bs (some ⟨g, 0, none⟩) (some ⟨g0, 0, none⟩) cp c0 1 u hu hv HSQ.out (by rw [HBL.out, HML.out]) (by omega) (by omega) HF1.out (by rw [HML.out]; exact HFB.out))
  have HDET := Lib.hid (fun u (hu : Mtx u (some ⟨g, 0, none⟩) M) => Determinant_ok M (some ⟨g, 0, none⟩) cp 1 u hu HSQ.out (by rw [HML.out]; omega) (by omega) (by omega) HF1.out)
  have HAP := Lib.hid (fun u xs C cx (hu : Mtx u (some ⟨g, 0, none⟩) M) (hb : Rds u C xs) (hxl : xs.length = n) (hf : ∀ j, j < n → fits (xs.getD j q0) 3000) => Apply_ok M xs (some ⟨g, 0, none⟩) C cp cx 3000 u (by rw [HML.out]; omega) hu hb HSH.out (by rw [HM0.out]; exact hxl) (by omega) (by omega) HFK.out (by rw [HM0.out]; exact hf))
  rw [HML.out] at HSING HSOK HDET HAP
  rw [HBL.out] at HSING HSOK
  rw [HM0.out] at HAP
  have HRANK := Lib.hid (aug_rank M bs n)
  have HSOL := Lib.hid (fun h => aug_sol M bs (n := n) h)
  have hle := (ech_holds (augQ M bs n) n n).len
  obtain ⟨T, HT⟩ := name_it (ech (augQ M bs n) n n)
  rw [HT.out] at HSING HSOK HRANK HSOL hle
  obtain ⟨d, HDD⟩ := name_it (detF (matQ M) n)
  rw [HDD.out] at HDET HRANK
  obtain ⟨KD, HKD⟩ := name_it (KK (1 + (1 + n * 1)) n + (8 + n * (1 + n * 1)))
  rw [HKD.out] at HDET hKD
  by_cases hd : d = 0
  · have hlt : T.2.length < n := by
      have := HRANK.out
      have h2 : T.2.length ≠ n := fun h => (this.1 h) hd
      omega
    refine (HSING.out _ hM hrb hlt).mono ?_
    rintro e w3 ⟨rfl, c1⟩
    replace hch := hch.then c1
    replace hM := hM.keep0 c1
    clear c1 hlt
    go_wp2_with fail
    refine (HDET.out _ hM).mono ?_
    rintro e w4 ⟨z, rfl, hz, c1⟩
    rw [hd] at hz
    have HZ := Lib.hid hz
    replace hch := hch.then c1
    clear c1 hM hz hd
    go_wp2_with fail
    refine (SignN z 0 KD _ HZ.out.num (by omega)).mono ?_
    rintro e w5 ⟨rfl, c1⟩
    rw [sg_nil0]
    replace hch := (hch.alloc (.cells #[.bool z.neg, .string z.num, .string z.den] 35)).then c1
    clear c1
    go_wp2_with fail
    refine (awake3_any _).mono ?_
    rintro e w6 ⟨rfl, c1⟩
    replace hch := hch.then c1
    go_wp2_with fail
    go_ret
    exact ⟨rfl, hch⟩
  · have hlen := HRANK.out.2 hd
    have HSL := Lib.hid (HSOL.out hlen)
    refine (HSOK.out _ hM hrb hlen).mono ?_
    rintro e w3 ⟨gx, zs, rfl, _, hzr, hzn, c1⟩
    have HZR := Lib.hid hzr
    have hzd := hzn.rds
    replace hch := hch.then c1
    replace hM := hM.keep0 c1
    replace hrb := hrb.keep0 c1
    clear c1 hlen hzr hzn
    go_wp2_with fail
    refine (HDET.out _ hM).mono ?_
    rintro e w4 ⟨z, rfl, hz, c1⟩
    have HZ := Lib.hid hz
    replace hch := hch.then c1
    replace hM := hM.keep0 c1
    replace hrb := hrb.keep0 c1
    replace hzd := hzd.keep0 c1
    clear c1 hz
    have ca : Chg [] w4 (w4.alloc (.cells #[.bool z.neg, .string z.num, .string z.den] 35)) := (Chg.refl _ _).alloc _
    replace hch := hch.then ca
    replace hM := hM.keep0 ca
    replace hrb := hrb.keep0 ca
    replace hzd := hzd.keep0 ca
    clear ca
    go_wp2_with fail
    refine (SignN z d KD _ HZ.out.num (by omega)).mono ?_
    rintro e w5 ⟨rfl, c1⟩
    have hsg : Hid (sg d ≠ 0) := by
      show _ ≠ _
      rcases sg_ne hd with h | h <;> rw [h] <;> decide
    obtain ⟨q, HQ⟩ := name_it (sg d)
    rw [HQ.out]
    have hq0 : (q == 0) = false := by simp; rw [← HQ.out]; exact hsg.out
    replace hch := hch.then c1
    replace hM := hM.keep0 c1
    replace hrb := hrb.keep0 c1
    replace hzd := hzd.keep0 c1
    clear c1 hd
    go_wp2_with fail
    have hap := HAP.out _ zs _ n hM hzd HZR.out.len (fun j hj => ((HZR.out.val j hj).mono hKS).num.fit)
    rw [HZR.out.len] at hap
    refine hap.mono ?_
    clear hap
    rintro e w6 ⟨gy, ys, rfl, _, hyr, hyn, c1⟩
    have hyd := hyn.rds
    have hys : Hid (ys = bs) := by
      show _ = _
      refine ext_getD (by rw [hyr.len, HBL.out]) fun j hj => ?_
      rw [HBL.out] at hj
      have h1 := hyr.val j hj
      have h2 := HRW.out.val j hj
      have h3 : sumF (fun t => ratOf ((M.getD j []).getD t q0) * ratOf (zs.getD t q0)) n = mtxQ n R 0 j := by
        rw [← h2.num.rat, ← HSL.out j hj]
        exact sumF_congr fun t ht => by rw [(HZR.out.val t ht).num.rat]; rfl
      rw [h3] at h1
      exact h1.unique h2
    rw [hys.out] at hyd
    replace hch := hch.then c1
    replace hrb := hrb.keep0 c1
    clear c1 hyr hyn hM hzd
    go_wp2_with fail
    refine (awake3_any _).mono ?_
    rintro e w7 ⟨rfl, c1⟩
    replace hch := hch.then c1
    replace hrb := hrb.keep0 c1
    replace hyd := hyd.keep0 c1
    clear c1
    go_wp2_with fail
    refine (sameRats_n bs n _ _ _ _ _ HBL.out (by omega) hyd hrb).mono ?_
    rintro e w8 ⟨rfl, c1⟩
    replace hch := hch.then c1
    go_wp2_with fail
    go_ret
    exact ⟨rfl, hch⟩
end Go.Proofs.Ytgdidakkfdcajaa
