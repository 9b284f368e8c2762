/-
  Several parts put together: LX8, LX9.
-/
import Derived.Test.YtpaochhaenehmaaGV
import Derived.Test.YtpaochhaenehmaaGT
import Derived.Test.YtpaochhaenehmaaGP
/- Part LX8. -/

namespace Go.Proofs.Ytpaochhaenehmaa
open Go.RowKit Nd
/-- The numbers of a matrix. -/
def matQ (M : List (List Q3)) : Nat → Nat → Rat := fun i j => ratOf ((M.getD i []).getD j q0)
theorem prp_of {E : Nat → Nat → Int} {F : Nat → Nat → Rat} {t : Nat → Nat} {n m : Nat} (h : ∀ i, i < n → 0 < t i ∧ ∀ j, j < m → ratI E i j = ((t i : Int) : Rat) * F i j) : Prp (ratI E) F n m := by
  refine ⟨fun i => ((t i : Int) : Rat), fun i hi => ?_⟩
  obtain ⟨h1, h2⟩ := h i hi
  refine ⟨fun hc => ?_, h2⟩
  have := Rat.intCast_inj.1 (hc.trans Rat.intCast_zero.symm)
  omega
theorem KK_small {K m : Nat} (hK : K ≤ 60000) (hm : m ≤ 16) : KK K m ≤ 4294967296 := by
  unfold KK
  have h1 : (K + 1) * 2 ^ m ≤ 60001 * 2 ^ 16 := Nat.mul_le_mul (by omega) (Nat.pow_le_pow_right (by omega) hm)
  omega
theorem small_bound {m k : Nat} (hm : m ≤ 16) (hk : k ≤ 3000) : m * k ≤ 48000 := Nat.le_trans (Nat.mul_le_mul hm hk) (by omega)
theorem small_bound2 {n m k : Nat} (hn : n ≤ 16) (hm : m ≤ 16) (hk : k ≤ 3000) : 8 + (n + 1) * (1 + m * k) ≤ 4294967296 := by
  have h1 := small_bound hm hk
  have h2 : (n + 1) * (1 + m * k) ≤ 17 * 48001 := Nat.mul_le_mul (by omega) (by omega)
  omega

set_option maxRecDepth 20000 in
set_option maxHeartbeats 1000000 in
theorem Rank_bad (M : List (List Q3)) (A : Option Addr) (cap : Nat) (w : World) (hn : M.length ≤ 1000000) (hx : Mtx w A M) (hs : shapeE M ≠ 0) :
    Calls Try.prog 11 #[.slice A M.length cap] w fun e w' => e = .returned (.tuple #[.int .i64 0, .int .i64 (shapeE M : Nat)]) ∧ Chg [] w w' := by
  obtain ⟨s, HS⟩ := name_it (shapeE M)
  rw [HS.out] at hs
  rw [HS.out]
  have hs1 : ((s : Int) != 0) = true := by simp; omega
  go_enter Try.func11, Try.ntmps11
  go_wp2_with fail
  refine (check_any M A cap _ hn hx).mono ?_
  rintro e w1 ⟨rfl, c1⟩
  rw [HS.out]
  go_wp2_with fail
  go_ret2
  exact ⟨rfl, c1⟩

set_option maxRecDepth 20000 in
set_option maxHeartbeats 2000000 in
theorem Rank_ok (M : List (List Q3)) (A : Option Addr) (cap : Nat) (k : Nat) (w : World) (_ : M.length ≤ 1000000) (hx : Mtx w A M) (hs : shapeE M = 0) (hk : 1 ≤ k) (hk2 : k ≤ 3000) (hfit : ∀ i, i < M.length → ∀ j, j < (M.getD 0 []).length → fits ((M.getD i []).getD j q0) k) :
    Calls Try.prog 11 #[.slice A M.length cap] w fun e w' => e = .returned (.tuple #[.int .i64 ((ech (matQ M) M.length (M.getD 0 []).length).2.length : Nat), .int .i64 0]) ∧ Chg [] w w' := by
  obtain ⟨r, HR⟩ := name_it (ech (matQ M) M.length (M.getD 0 []).length).2.length
  rw [HR.out]
  obtain ⟨s0, s1, s2, s3, s4⟩ := shapeE_ok hs
  obtain ⟨n, HN⟩ := name_it M.length
  obtain ⟨m, HM⟩ := name_it (M.getD 0 []).length
  rw [HN.out] at s0 s3
  rw [HM.out] at s1 s4
  have hrow0 : ∀ i, i < n → (M.getD i []).length = m := fun i hi => by rw [← HM.out]; exact s2 i (by rw [HN.out]; exact hi)
  have hfit0 : ∀ i, i < n → ∀ j, j < m → fits ((M.getD i []).getD j q0) k := fun i hi j hj => hfit i (by rw [HN.out]; exact hi) j (by rw [HM.out]; exact hj)
  have HROW := Lib.hid hrow0
  have HFIT := Lib.hid hfit0
  have HSH := Lib.hid hs
  have HX := Lib.hid hx
  obtain ⟨ga, oa, rfl, hga⟩ := hx.form (by rw [HN.out]; omega)
  obtain ⟨B0, cr0, h0, _, _, _⟩ := hx.at_ (i := 0) (by rw [HN.out]; omega)
  rw [Nat.add_zero, HM.out] at h0
  have HC0 := Lib.hid h0
  have hmk := small_bound s4 hk2
  have hb8 := small_bound2 s3 s4 hk2
  have hKK := KK_small (K := k + (1 + m * k)) (m := m) (by omega) s4
  have HKK := Lib.hid hKK
  have HB8 := Lib.hid hb8
  have HMK := Lib.hid hmk
  clear hrow0 hfit0 hfit hs s2 h0 hx hmk hb8 hKK
  rw [HN.out]
  have hch : Chg [] w w := Chg.refl _ _
  go_enter Try.func11, Try.ntmps11
  go_wp2_with fail
  rw [← HN.out]
  refine (check_any M _ cap _ (by rw [HN.out]; omega) HX.out).mono ?_
  rintro e w1 ⟨rfl, c1⟩
  rw [HSH.out, HN.out]
  replace hch := hch.then c1
  clear c1
  go_wp2_with fail
  refine (integral_any M n m k _ cap _ HN.out HROW.out HFIT.out hk (by omega) (by omega) HB8.out (by omega) (HX.out.keep0 hch)).mono ?_
  rintro e w2 ⟨g, M1, E, t, z, rfl, hg, hM1, hV1, ht, hz, c1⟩
  have hPE := Lib.hid (prp_of (F := matQ M) ht)
  have hgw : w.heap.size ≤ g := Nat.le_trans hch.size hg
  have HV1 := Lib.hid hV1
  replace hch := hch.then c1
  clear c1 ht hV1
  have b1 := Blk3.alloc w2 (.bool z.neg) (.string z.num) (.string z.den) 26
  replace hch := hch.then ((Chg.refl [] _).alloc (.cells #[.bool z.neg, .string z.num, .string z.den] 26))
  obtain ⟨gb1, Gb1⟩ := name_it w2.heap.size
  rw [Gb1.out] at b1
  have hgb1 := Gb1.out
  obtain ⟨wb1, HWb1⟩ := name_it (w2.alloc (.cells #[.bool z.neg, .string z.num, .string z.den] 26))
  rw [HWb1.out] at b1 hch
  have hM := hM1.keep0 ((Chg.refl [] w2).alloc (.cells #[.bool z.neg, .string z.num, .string z.den] 26))
  rw [HWb1.out] at hM
  have c0 := (hch.cell (p := ⟨ga, oa, none⟩) hga (by simp)).trans HC0.out
  rw [← HWb1.out] at c0
  go_wp2_with fail
  rw [HWb1.out]
  refine (eliminate_any M1 E n m (k + (1 + m * k)) m g n _ HV1.out (by omega) (Nat.le_refl _) (by omega) (by omega) HKK.out hM).mono ?_
  rintro e w3 ⟨gp, cp, M2, E2, rfl, hrow, hgp, hV2, hP2, hM2, c1⟩
  have hgp2 : w.heap.size ≤ gp := Nat.le_trans hch.size hgp
  replace hch := hch.fresh c1 hgw
  have hpe := hPE.out.ech m (Nat.le_refl _)
  have hP3 := Lib.hid (hP2.trans hpe.2)
  rw [hpe.1] at hrow
  have hpv := Lib.hid hpe.1
  rw [hpv.out]
  have HV2 := Lib.hid hV2
  clear c1 hpe hP2 hV2 hM c0 b1
  rw [HN.out, HM.out] at HR
  rw [HR.out]
  go_wp2_with fail
  go_ret2
  exact ⟨rfl, hch⟩

set_option maxRecDepth 20000 in
set_option maxHeartbeats 1000000 in
theorem Reduce_bad (M : List (List Q3)) (A : Option Addr) (cap : Nat) (w : World) (hn : M.length ≤ 1000000) (hx : Mtx w A M) (hs : shapeE M ≠ 0) :
    Calls Try.prog 10 #[.slice A M.length cap] w fun e w' => e = .returned (.tuple #[.slice none 0 0, .slice none 0 0, .int .i64 (shapeE M : Nat)]) ∧ Chg [] w w' := by
  obtain ⟨s, HS⟩ := name_it (shapeE M)
  rw [HS.out] at hs
  rw [HS.out]
  have hs1 : ((s : Int) != 0) = true := by simp; omega
  go_enter Try.func10, Try.ntmps10
  go_wp2_with fail
  refine (check_any M A cap _ hn hx).mono ?_
  rintro e w1 ⟨rfl, c1⟩
  rw [HS.out]
  go_wp2_with fail
  go_ret3
  exact ⟨rfl, c1⟩

/-- The bound of the reduced form's parts. -/
def KF (m k : Nat) : Nat := KK (k + (1 + m * k)) m + KK (k + (1 + m * k)) m
/-- What Reduce returns for a matrix. -/
structure Red (w w' : World) (M : List (List Q3)) (k gf gp cp : Nat) (Mf : List (List Q3)) : Prop where
  lf : w.heap.size ≤ gf
  lp : w.heap.size ≤ gp
  mtr : Mut w' [] gf M.length Mf
  vals : Vals Mf (ech (matQ M) M.length (M.getD 0 []).length).1 M.length (M.getD 0 []).length (KF (M.getD 0 []).length k)
  row : Row 3 .i64 w' gp cp (ech (matQ M) M.length (M.getD 0 []).length).2

set_option maxRecDepth 20000 in
set_option maxHeartbeats 8000000 in
theorem Reduce_ok (M : List (List Q3)) (A : Option Addr) (cap : Nat) (k : Nat) (w : World) (_ : M.length ≤ 1000000) (hx : Mtx w A M) (hs : shapeE M = 0) (hk : 1 ≤ k) (hk2 : k ≤ 3000) (hfit : ∀ i, i < M.length → ∀ j, j < (M.getD 0 []).length → fits ((M.getD i []).getD j q0) k) :
    Calls Try.prog 10 #[.slice A M.length cap] w fun e w' => ∃ gf gp cp Mf, e = .returned (.tuple #[.slice (some ⟨gf, 0, none⟩) M.length M.length, .slice (some ⟨gp, 0, none⟩) (ech (matQ M) M.length (M.getD 0 []).length).2.length cp, .int .i64 0]) ∧ Red w w' M k gf gp cp Mf ∧ Chg [] w w' := by
  obtain ⟨pv, HPV⟩ := name_it (ech (matQ M) M.length (M.getD 0 []).length).2
  rw [HPV.out]
  obtain ⟨f, HFF⟩ := name_it (ech (matQ M) M.length (M.getD 0 []).length).1
  have HEC := Lib.hid (ech_holds (matQ M) M.length (M.getD 0 []).length)
  rw [HFF.out, HPV.out] at HEC
  have FIN : Hid (∀ (w1 : World) gf gp cp Mf, w.heap.size ≤ gf → w.heap.size ≤ gp → Mut w1 [] gf M.length Mf → Vals Mf f M.length (M.getD 0 []).length (KF (M.getD 0 []).length k) → Row 3 .i64 w1 gp cp pv → Red w w1 M k gf gp cp Mf) := Lib.hid fun w1 gf gp cp Mf a b c d e => ⟨a, b, c, by rw [HFF.out]; exact d, by rw [HPV.out]; exact e⟩
  obtain ⟨s0, s1, s2, s3, s4⟩ := shapeE_ok hs
  obtain ⟨n, HN⟩ := name_it M.length
  obtain ⟨m, HM⟩ := name_it (M.getD 0 []).length
  rw [HN.out] at s0 s3
  rw [HM.out] at s1 s4
  have hrow0 : ∀ i, i < n → (M.getD i []).length = m := fun i hi => by rw [← HM.out]; exact s2 i (by rw [HN.out]; exact hi)
  have hfit0 : ∀ i, i < n → ∀ j, j < m → fits ((M.getD i []).getD j q0) k := fun i hi j hj => hfit i (by rw [HN.out]; exact hi) j (by rw [HM.out]; exact hj)
  have HROW := Lib.hid hrow0
  have HFIT := Lib.hid hfit0
  have HSH := Lib.hid hs
  have HX := Lib.hid hx
  obtain ⟨ga, oa, rfl, hga⟩ := hx.form (by rw [HN.out]; omega)
  obtain ⟨B0, cr0, h0, _, _, _⟩ := hx.at_ (i := 0) (by rw [HN.out]; omega)
  rw [Nat.add_zero, HM.out] at h0
  have HC0 := Lib.hid h0
  have hmk := small_bound s4 hk2
  have hb8 := small_bound2 s3 s4 hk2
  have hKK := KK_small (K := k + (1 + m * k)) (m := m) (by omega) s4
  have HKK := Lib.hid hKK
  have HB8 := Lib.hid hb8
  have HMK := Lib.hid hmk
  clear hrow0 hfit0 hfit hs s2 h0 hx hmk hb8 hKK
  rw [HN.out]
  have hch : Chg [] w w := Chg.refl _ _
  go_enter Try.func10, Try.ntmps10
  go_wp2_with fail
  rw [← HN.out]
  refine (check_any M _ cap _ (by rw [HN.out]; omega) HX.out).mono ?_
  rintro e w1 ⟨rfl, c1⟩
  rw [HSH.out, HN.out]
  replace hch := hch.then c1
  clear c1
  go_wp2_with fail
  refine (integral_any M n m k _ cap _ HN.out HROW.out HFIT.out hk (by omega) (by omega) HB8.out (by omega) (HX.out.keep0 hch)).mono ?_
  rintro e w2 ⟨g, M1, E, t, z, rfl, hg, hM1, hV1, ht, hz, c1⟩
  have hPE := Lib.hid (prp_of (F := matQ M) ht)
  have hgw : w.heap.size ≤ g := Nat.le_trans hch.size hg
  have HV1 := Lib.hid hV1
  replace hch := hch.then c1
  clear c1 ht hV1
  have b1 := Blk3.alloc w2 (.bool z.neg) (.string z.num) (.string z.den) 26
  replace hch := hch.then ((Chg.refl [] _).alloc (.cells #[.bool z.neg, .string z.num, .string z.den] 26))
  obtain ⟨gb1, Gb1⟩ := name_it w2.heap.size
  rw [Gb1.out] at b1
  have hgb1 := Gb1.out
  obtain ⟨wb1, HWb1⟩ := name_it (w2.alloc (.cells #[.bool z.neg, .string z.num, .string z.den] 26))
  rw [HWb1.out] at b1 hch
  have hM := hM1.keep0 ((Chg.refl [] w2).alloc (.cells #[.bool z.neg, .string z.num, .string z.den] 26))
  rw [HWb1.out] at hM
  have c0 := (hch.cell (p := ⟨ga, oa, none⟩) hga (by simp)).trans HC0.out
  rw [← HWb1.out] at c0
  go_wp2_with fail
  rw [HWb1.out]
  refine (eliminate_any M1 E n m (k + (1 + m * k)) m g n _ HV1.out (by omega) (Nat.le_refl _) (by omega) (by omega) HKK.out hM).mono ?_
  rintro e w3 ⟨gp, cp, M2, E2, rfl, hrow, hgp, hV2, hP2, hM2, c1⟩
  have hgp2 : w.heap.size ≤ gp := Nat.le_trans hch.size hgp
  replace hch := hch.fresh c1 hgw
  have hpe := hPE.out.ech m (Nat.le_refl _)
  have hP3 := Lib.hid (hP2.trans hpe.2)
  rw [hpe.1] at hrow
  have hpv := Lib.hid hpe.1
  rw [hpv.out]
  have HV2 := Lib.hid hV2
  clear c1 hpe hP2 hV2 hM c0 b1
  rw [HN.out, HM.out] at HPV HFF HEC FIN
  have HP4 := Lib.hid hP3.out
  rw [HFF.out] at HP4
  rw [HPV.out] at hrow ⊢
  clear hP3
  obtain ⟨K, HK⟩ := name_it (KK (k + (1 + m * k)) m)
  have hKF : KF m k = K + K := by unfold KF; rw [HK.out]
  rw [HK.out] at HV2 HKK
  rw [hKF] at FIN
  have hKl := HKK.out
  obtain ⟨r0, HR0⟩ := name_it pv.length
  rw [HR0.out]
  have hg0 := hM2.lt
  have hgp0 := hrow.lt
  go_wp2_with (at_make; refine wpList_makeM _ rfl (.tmp 29) (.tmp 29) rfl _ _ n rfl rfl rfl rfl (by omega) [] ?_)
  intro w4 hMf c1
  have hM3 := (hM2.regs (hs := [w3.heap.size]) (fun x hx => .inr (by simp at hx; omega))).keep0 c1
  replace hrow := hrow.keep c1 (by simp)
  obtain ⟨gf, HG⟩ := name_it w3.heap.size
  rw [HG.out] at hMf hM3 hg0 hgp0 ⊢
  have hgf : w.heap.size ≤ gf := by rw [← HG.out]; exact hch.size
  replace hch := hch.then c1
  clear c1 hM2
  go_wp2_with fail
  go_loopw [33] (fun iv wr => ∃ (i : Nat) (Mf : List (List Q3)), i ≤ n ∧ iv = .int .i64 i ∧ Mf.length = n ∧ (∀ r, r < i → Row1 (Mf.getD r []) (f r) m (K + K)) ∧ Mut wr [] gf n Mf ∧ Mut wr [gf] g n M2 ∧ Row 3 .i64 wr gp cp pv ∧ Chg [] w wr) (fun iv _ => n - (intOf iv).toNat)
  case atStart => exact ⟨0, _, Nat.zero_le _, rfl, by simp, fun r h => absurd h (by omega), hMf, hM3, hrow, hch⟩
  case round =>
    clear hMf hM3 hrow hch
    obtain ⟨i, Mf, hi, rfl, hlf, hok, hMf, hM3, hrow, hch⟩ := hrel
    have HOK := Lib.hid hok
    clear hok
    by_cases hlt : i < n
    · have R1 := Lib.hid (HV2.out.at_ hlt)
      have hl2 := HV2.out.len
      obtain ⟨B2, c2, d0, hd1, hd2, hB2, _⟩ := hM3.at_ (i := i) (by omega)
      obtain ⟨y, HY⟩ := name_it (M2.getD i [])
      rw [HY.out] at d0 hd1 hB2 R1
      have hyl := R1.out.len
      rw [hyl] at d0
      obtain ⟨g2, o2, rfl, _⟩ := hB2.form (by omega)
      have j1 : (0 : Int) ≤ (i : Int) := by omega
      have j2 : (i : Int) < (n : Int) := by omega
      have hgfl := hMf.lt
      by_cases hp : i < r0
      · have hpl : i < pv.length := by rw [HR0.out]; exact hp
        have q0c := hrow.cell i hpl
        have hpm := HEC.out.lt i hpl
        have hfm := fun (j : Nat) (hj : j < m) => HP4.out.form HEC.out hpl hpm hj
        obtain ⟨pc, HPC⟩ := name_it (pv.getD i 0)
        rw [HPC.out] at q0c hpm
        have hfm0 : ratI E2 i pc ≠ 0 := by have := (hfm pc hpm).1; rwa [HPC.out] at this
        have FM : Hid (∀ j, j < m → ratI E2 i j / ratI E2 i pc = f i j) := Lib.hid fun j hj => by have := (hfm j hj).2; rwa [HPC.out] at this
        clear hfm
        have el := hB2.el (j := pc) (by omega)
        have vx := R1.out.val pc hpm
        obtain ⟨x, HX2⟩ := name_it (y.getD pc q0)
        rw [HX2.out] at el vx
        have e0 := el.a
        have e1 := el.b
        have e2 := el.c
        have HD0 := Lib.hid hfm0
        have k1 : (0 : Int) ≤ (pc : Int) := by omega
        have k2 : (pc : Int) < (m : Int) := by omega
        have k3 : (i : Int) < (r0 : Int) := by omega
        clear el hfm0 hpl
        go_wp2_with fail
        refine (fractions_any y (ratI E2 i) m K K x (ratI E2 i pc) g2 o2 c2 _ R1.out vx HD0.out (by omega) (by omega) (by omega) hB2).mono ?_
        rintro e w5 ⟨h, ch, zs, rfl, hh, hzs, hz, c1⟩
        have hzs2 : Row1 zs (f i) m (K + K) := ⟨hzs.len, fun j hj => by rw [← FM.out j hj]; exact hzs.val j hj⟩
        have hgh := Nat.lt_of_lt_of_le hgfl hh
        replace hMf := hMf.keep0 c1
        replace hM3 := hM3.keep0 c1
        replace hrow := hrow.keep c1 (by simp)
        replace hch := hch.then c1
        have hzl := hzs.len
        have hzf := hz.fits
        clear c1 hzs e0 e1 e2 q0c d0 hB2
        obtain ⟨wS, HWS⟩ := name_it w5
        rw [HWS.out] at hMf hM3 hrow hch hz ⊢
        obtain ⟨B9, c9, d9, _, _, _, _⟩ := hMf.at_ (i := i) (by omega)
        have f9 := hMf.frozen i
        have hMs := Lib.hid (hMf.store (i := i) (by omega) (B := some ⟨h, 0, none⟩) (c := ch) (xs := zs) (by omega) (by omega) hz.rds (fun _ a ha hm => by cases ha; simp at hm; omega))
        rw [hzl] at hMs
        have cs : Chg [gf] wS (wS.setCell ⟨gf, i, none⟩ (.slice (some ⟨h, 0, none⟩) m ch)) := (Chg.refl [gf] _).setCell (.inl (by simp)) _
        have hM3s := Lib.hid (hM3.keepg cs (by simp; omega) (fun x hx => hx))
        have hrs := Lib.hid (hrow.keep cs (by simp; omega))
        have hcs := Lib.hid (hch.fresh cs hgf)
        have HOK2 : Hid (∀ r, r < i + 1 → Row1 ((Mf.set i zs).getD r []) (f r) m (K + K)) := by
          show ∀ _, _
          intro r hr
          rw [getD_setM Mf [] zs (by omega)]
          by_cases hri : r = i
          · rw [if_pos hri, hri]; exact hzs2
          · rw [if_neg hri]; exact HOK.out r (by omega)
        clear hMf hM3 hrow hch cs hz hzs2
        go_wp2_with fail
        go_roundw
        case rel => exact ⟨i + 1, Mf.set i zs, by omega, by go_num, by rw [List.length_set]; exact hlf, HOK2.out, hMs.out, hM3s.out, hrs.out, hcs.out⟩
        case measure => simp [intOf]; omega
      · have hpz : ∀ j, j < m → f i j = 0 := fun j hj => HEC.out.zero i (by rw [HR0.out]; omega) hlt j hj
        have HPZ := Lib.hid hpz
        clear hpz
        go_wp2_with (at_make; refine wpList_make3 _ rfl (.tmp 57) (.tmp 57) rfl _ _ m rfl rfl rfl rfl (by omega) ?_)
        intro w5 hz c1
        obtain ⟨h, HH⟩ := name_it wr.heap.size
        rw [HH.out] at hz hgfl ⊢
        obtain ⟨zs, HZS⟩ := name_it (List.replicate m q0)
        have hzs2 : Row1 zs (f i) m (K + K) := ⟨by rw [← HZS.out]; simp, fun j hj => by rw [← HZS.out, HPZ.out j hj]; simp only [List.getD_eq_getElem?_getD, List.getElem?_replicate, if_pos hj, Option.getD_some]; exact Val_zero.mono (by have := (R1.out.val j hj).bd; have := bd_pos this; omega)⟩
        rw [HZS.out] at hz
        have hzl := hzs2.len
        replace hMf := hMf.keep0 c1
        replace hM3 := hM3.keep0 c1
        replace hrow := hrow.keep c1 (by simp)
        replace hch := hch.then c1
        clear c1 d0 hB2
        obtain ⟨wS, HWS⟩ := name_it w5
        rw [HWS.out] at hMf hM3 hrow hch hz ⊢
        obtain ⟨B9, c9, d9, _, _, _, _⟩ := hMf.at_ (i := i) (by omega)
        have f9 := hMf.frozen i
        have hMs := Lib.hid (hMf.store (i := i) (by omega) (B := some ⟨h, 0, none⟩) (c := m) (xs := zs) (by omega) (by omega) hz.rds (fun _ a ha hm => by cases ha; simp at hm; omega))
        rw [hzl] at hMs
        have cs : Chg [gf] wS (wS.setCell ⟨gf, i, none⟩ (.slice (some ⟨h, 0, none⟩) m m)) := (Chg.refl [gf] _).setCell (.inl (by simp)) _
        have hM3s := Lib.hid (hM3.keepg cs (by simp; omega) (fun x hx => hx))
        have hrs := Lib.hid (hrow.keep cs (by simp; omega))
        have hcs := Lib.hid (hch.fresh cs hgf)
        have HOK2 : Hid (∀ r, r < i + 1 → Row1 ((Mf.set i zs).getD r []) (f r) m (K + K)) := by
          show ∀ _, _
          intro r hr
          rw [getD_setM Mf [] zs (by omega)]
          by_cases hri : r = i
          · rw [if_pos hri, hri]; exact hzs2
          · rw [if_neg hri]; exact HOK.out r (by omega)
        clear hMf hM3 hrow hch cs hz hzs2
        go_wp2_with fail
        go_roundw
        case rel => exact ⟨i + 1, Mf.set i zs, by omega, by go_num, by rw [List.length_set]; exact hlf, HOK2.out, hMs.out, hM3s.out, hrs.out, hcs.out⟩
        case measure => simp [intOf]; omega
    · obtain rfl : i = n := by omega
      have hV9 : Vals Mf f i m (K + K) := ⟨hlf, fun r hr => (HOK.out r hr).len, fun r hr => (HOK.out r hr).val⟩
      have HFI := Lib.hid (FIN.out _ gf gp cp Mf hgf hgp2 hMf hV9 hrow)
      clear hV9 hMf hM3 hrow
      go_wp2_with fail
      go_ret3
      exact ⟨gf, gp, cp, Mf, (by rw [HR0.out]; try rfl), HFI.out, hch⟩

end Go.Proofs.Ytpaochhaenehmaa

/- Part LX9. -/

namespace Go.Proofs.Ytpaochhaenehmaa
open Go.RowKit Nd
/-- The vector of the kernel at column c after i pivots. -/
def kvF (F : Nat → Nat → Rat) (pv : List Nat) (c : Nat) : Nat → Nat → Rat
  | 0 => fun j => if j = c then 1 else 0
  | i + 1 => fun j => if j = pv.getD i 0 then -(F i c) else kvF F pv c i j
theorem Row1.set {xs : List Q3} {p : Nat → Rat} {m k l : Nat} {z : Q3} {q : Rat} (h : Row1 xs p m k) (hl : l < m) (hz : Val z q k) : Row1 (xs.set l z) (fun j => if j = l then q else p j) m k := by
  have hlx : l < xs.length := by rw [h.len]; exact hl
  refine ⟨by rw [List.length_set]; exact h.len, fun j hj => ?_⟩
  rw [getD_setM xs q0 z hlx]
  by_cases he : j = l
  · simp only [he, if_true]; exact hz
  · simp only [he, if_false]; exact h.val j hj
theorem zeros_row (m : Nat) {k : Nat} (hk : 1 ≤ k) : Row1 (List.replicate m q0) (fun _ => 0) m k :=
  ⟨by simp, fun j hj => by simp only [List.getD_eq_getElem?_getD, List.getElem?_replicate, if_pos hj, Option.getD_some]; exact Val_zero.mono hk⟩

set_option maxRecDepth 20000 in
set_option maxHeartbeats 4000000 in
theorem kernelVector_any (M : List (List Q3)) (F : Nat → Nat → Rat) (pv : List Nat) (n m K c gf gp cp : Nat) (w : World) (hv : Vals M F n m K) (hn0 : 0 < n) (hn : n ≤ 1000000) (hm : m ≤ 1000000) (hc : c < m) (hp : pv.length ≤ n) (hpm : ∀ t, t < pv.length → pv.getD t 0 < m) (hK : K + 8 ≤ 34359738367) (hx : Mtx w (some ⟨gf, 0, none⟩) M) (hr : Row 3 .i64 w gp cp pv) :
    Calls Try.prog 37 #[.slice (some ⟨gf, 0, none⟩) n n, .slice (some ⟨gp, 0, none⟩) pv.length cp, .int .i64 c] w fun e w' => ∃ g zs, e = .returned (.slice (some ⟨g, 0, none⟩) m m) ∧ w.heap.size ≤ g ∧ Row1 zs (kvF F pv c pv.length) m (K + 8) ∧ Nums w' g m zs ∧ Chg [] w w' := by
  have HX := Lib.hid hx
  have HR := Lib.hid hr
  have HV := Lib.hid hv
  have HPM := Lib.hid hpm
  have hL := hv.len
  obtain ⟨B0, c0, d0, _, _, _⟩ := hx.at_ (i := 0) (by omega)
  rw [hv.row 0 hn0] at d0
  try rw [Nat.zero_add] at d0
  have hch : Chg [] w w := Chg.refl _ _
  have hgf := (hx.form (by omega))
  obtain ⟨r0, HR0⟩ := name_it pv.length
  rw [HR0.out] at hp ⊢
  have hn1 : (0 : Int) < (n : Int) := by omega
  clear hx hr hv hpm
  obtain ⟨gf2, of2, hge, hgl⟩ := hgf
  simp only [Option.some.injEq, Addr.mk.injEq, and_true] at hge
  obtain ⟨rfl, -⟩ := hge
  go_enter Try.func37, Try.ntmps37
  go_wp2_with (at_make; refine wpList_make3 _ rfl (.tmp 13) (.tmp 13) rfl _ _ m rfl rfl rfl rfl hm ?_)
  intro w1 hz c1
  obtain ⟨g, HG⟩ := name_it w.heap.size
  rw [HG.out] at hz hgl ⊢
  have hgw : w.heap.size ≤ g := by rw [← HG.out]; exact Nat.le_refl _
  replace hch := hch.then c1
  clear c1 d0
  have i3 : (0 : Int) ≤ (c : Int) := by omega
  have i4 : (c : Int) < (m : Int) := by omega
  have ZR := Lib.hid (zeros_row m (k := K + 8) (by omega))
  obtain ⟨z0, HZ0⟩ := name_it (List.replicate m q0)
  rw [HZ0.out] at hz ZR
  have hz0l := ZR.out.len
  go_wp2_with fail
  refine (IntV 1 _ (by omega) (by omega)).mono ?_
  rintro e w2 ⟨z1, rfl, hz1, c1⟩
  replace hz := hz.keep c1 (by simp)
  replace hch := hch.then c1
  clear c1
  obtain ⟨s0, s1, s2⟩ := hz.rds.zero_at (j := c) (by omega)
  have s3 := hz.frozen (c * 3)
  have s4 := hz.frozen (c * 3 + 1)
  have s5 := hz.frozen (c * 3 + 2)
  go_wp2_with fail
  have R0 : Row1 (z0.set c z1) (kvF F pv c 0) m (K + 8) := ZR.out.set hc (by have := hz1.mono (show 8 ≤ K + 8 by omega); simpa using this)
  replace hz := hz.store (i := c) (by omega) z1
  replace hch := hch.store3o (g := g) (i := c * 3) (j := c * 3 + 1) (k := c * 3 + 2) (.inr hgw) (.bool z1.neg) (.string z1.num) (.string z1.den)
  clear s0 s1 s2 s3 s4 s5 hz1
  go_loopw [21] (fun iv wr => ∃ (i : Nat) (zs : List Q3), i ≤ r0 ∧ iv = .int .i64 i ∧ Row1 zs (kvF F pv c i) m (K + 8) ∧ Nums wr g m zs ∧ Chg [] w wr) (fun iv _ => r0 - (intOf iv).toNat)
  case atStart => exact ⟨0, _, Nat.zero_le _, rfl, R0, hz, hch⟩
  case round =>
    clear hz hch R0
    obtain ⟨i, zs, hi, rfl, hR, hz, hch⟩ := hrel
    have RR := Lib.hid hR
    have hzl := hR.len
    clear hR
    by_cases hlt : i < r0
    · have hpl : i < pv.length := by rw [HR0.out]; exact hlt
      have q0c := (HR.out.keep hch (by simp)).cell i hpl
      have hpm := HPM.out i hpl
      obtain ⟨pc, HPC⟩ := name_it (pv.getD i 0)
      rw [HPC.out] at q0c hpm
      obtain ⟨Br, cr, d0, _, _, hB⟩ := (HX.out.keep0 hch).at_ (i := i) (by omega)
      try rw [Nat.zero_add] at d0
      have R1 := Lib.hid (HV.out.at_ (i := i) (by omega))
      obtain ⟨y, HY⟩ := name_it (M.getD i [])
      rw [HY.out] at d0 hB R1
      have hyl := R1.out.len
      rw [hyl] at d0
      obtain ⟨g2, o2, rfl, _⟩ := hB.form (by omega)
      have el := hB.el (j := c) (by omega)
      have vx := R1.out.val c hc
      obtain ⟨x, HX2⟩ := name_it (y.getD c q0)
      rw [HX2.out] at el vx
      obtain ⟨q, HQ⟩ := name_it (F i c)
      rw [HQ.out] at vx
      have e0 := el.a
      have e1 := el.b
      have e2 := el.c
      have j1 : (0 : Int) ≤ (i : Int) := by omega
      have j2 : (i : Int) < (r0 : Int) := by omega
      have j3 : (i : Int) < (n : Int) := by omega
      have k1 : (0 : Int) ≤ (pc : Int) := by omega
      have k2 : (pc : Int) < (m : Int) := by omega
      clear el hB hpl
      go_wp2_with fail
      refine (NegateN x q K _ vx.num (by omega)).mono ?_
      rintro e w3 ⟨z, rfl, hzv, c1⟩
      replace hz := hz.keep c1 (by simp)
      replace hch := hch.then c1
      clear c1 e0 e1 e2 q0c d0
      have hR2 : Hid (Row1 (zs.set pc z) (kvF F pv c (i + 1)) m (K + 8)) := by
        show Row1 _ _ _ _
        have := RR.out.set hpm (hzv.mono (show K ≤ K + 8 by omega))
        unfold kvF
        rw [HPC.out, HQ.out]
        exact this
      obtain ⟨s0, s1, s2⟩ := hz.rds.zero_at (j := pc) (by omega)
      have s3 := hz.frozen (pc * 3)
      have s4 := hz.frozen (pc * 3 + 1)
      have s5 := hz.frozen (pc * 3 + 2)
      clear hzv
      go_wp2_with fail
      go_roundw
      case rel => exact ⟨i + 1, zs.set pc z, by omega, by go_num, hR2.out, hz.store (by omega) z, hch.store3o (.inr hgw) _ _ _⟩
      case measure => simp [intOf]; omega
    · obtain rfl : i = r0 := by omega
      go_wp2_with fail
      go_ret
      exact ⟨g, zs, rfl, hgw, RR.out, hz, hch⟩

end Go.Proofs.Ytpaochhaenehmaa
