/-
  Several parts put together: LX14, LX15, LX16, LX17.
-/
import Derived.Test.YtpaochhaenehmaaRL3
import Derived.Test.YtpaochhaenehmaaGT
/- Part LX14. -/

namespace Go.Proofs.Ytpaochhaenehmaa
open Go.RowKit Nd
theorem ext_getD {xs ys : List Q3} (hl : xs.length = ys.length) (h : ∀ j, j < ys.length → xs.getD j q0 = ys.getD j q0) : xs = ys := by
  apply List.ext_getElem hl
  intro j h1 h2
  have := h j h2
  simpa [List.getD_eq_getElem?_getD, h1, h2] using this
theorem fill_row (row : List Q3) (x : Q3) (m : Nat) (hl : row.length = m) : (fillL (List.replicate (m + 1) q0) 0 row).set m x = row ++ [x] := by
  refine ext_getD (by rw [List.length_set, fillL_length]; simp [hl]) fun j hj => ?_
  rw [List.length_append, List.length_singleton, hl] at hj
  rw [getD_setM _ q0 x (by rw [fillL_length, List.length_replicate]; omega), getD_snocM, hl]
  by_cases h : j = m
  · rw [if_pos h, if_pos h]
  · rw [if_neg h, if_neg h, fillL_get row _ 0 j (by rw [List.length_replicate]; omega), if_pos (by omega)]; simp

set_option maxRecDepth 20000 in
set_option maxHeartbeats 4000000 in
theorem extended_any (M : List (List Q3)) (xs : List Q3) (n m : Nat) (A B : Option Addr) (cap cb : Nat) (w : World) (hl : M.length = n) (hrow : ∀ i, i < n → (M.getD i []).length = m) (hxl : xs.length = n) (hn : n ≤ 1000000) (hm : m + 1 ≤ 1000000) (hx : Mtx w A M) (hb : Rds w B xs) :
    Calls Try.prog 38 #[.slice A n cap, .slice B n cb] w fun e w' => ∃ (g : Nat) (M' : List (List Q3)), e = .returned (.slice (some ⟨g, 0, none⟩) n n) ∧ w.heap.size ≤ g ∧ Mut w' [] g n M' ∧ M'.length = n ∧ (∀ i, i < n → M'.getD i [] = M.getD i [] ++ [xs.getD i q0]) ∧ Chg [] w w' := by
  have HROW := Lib.hid hrow
  have HL := Lib.hid hl
  have HXL := Lib.hid hxl
  have HX0 := Lib.hid hx
  have HB := Lib.hid hb
  have hch : Chg [] w w := Chg.refl _ _
  obtain ⟨m1, HM1⟩ := name_it (m + 1)
  rw [HM1.out] at hm
  have hm1 : (m : Int) + 1 = (m1 : Int) := by have := HM1.out; omega
  clear hrow hl hxl hx hb
  go_enter Try.func38, Try.ntmps38
  go_wp2_with (at_make; refine wpList_makeM _ rfl (.tmp 9) (.tmp 9) rfl _ _ n rfl rfl rfl rfl hn [] ?_)
  intro w1 hM c1
  obtain ⟨g, HG⟩ := name_it w.heap.size
  rw [HG.out] at hM ⊢
  have hgw : w.heap.size ≤ g := by rw [← HG.out]; exact Nat.le_refl _
  replace hch := hch.then c1
  clear c1
  go_wp2_with fail
  go_loopw [13] (fun iv wr => ∃ (i : Nat) (M' : List (List Q3)), i ≤ n ∧ iv = .int .i64 i ∧ M'.length = n ∧ Mut wr [] g n M' ∧ (∀ r, r < i → M'.getD r [] = M.getD r [] ++ [xs.getD r q0]) ∧ Chg [] w wr) (fun iv _ => n - (intOf iv).toNat)
  case atStart => exact ⟨0, _, Nat.zero_le _, rfl, by simp, hM, fun r h => absurd h (by omega), hch⟩
  case round =>
    clear hM hch
    obtain ⟨i, M', hi, rfl, hlM, hM, hok, hch⟩ := hrel
    have HOK := Lib.hid hok
    clear hok
    by_cases hlt : i < n
    · have hx := HX0.out.keep0 hch
      obtain ⟨ga, oa, rfl, hga⟩ := HX0.out.form (by rw [HL.out]; omega)
      obtain ⟨gb, ob, rfl, hgb⟩ := HB.out.form (by rw [HXL.out]; omega)
      obtain ⟨Br, cr, c0, hc1, hc2, hr⟩ := hx.at_ (i := i) (by rw [HL.out]; exact hlt)
      obtain ⟨_, _, r0, _, _, hr0⟩ := HX0.out.at_ (i := i) (by rw [HL.out]; exact hlt)
      have e0 := (hch.cell (p := ⟨ga, oa + i, none⟩) hga (by simp)).trans r0
      rw [c0] at e0
      simp only [Option.some.injEq, Value.slice.injEq] at e0
      obtain ⟨rfl, -, rfl⟩ := e0
      have hrl := HROW.out i hlt
      obtain ⟨row, HRW⟩ := name_it (M.getD i [])
      rw [HRW.out] at c0 hr hrl hr0 hc1
      rw [hrl] at c0
      have HR := Lib.hid hr
      have HR0 := Lib.hid hr0
      have HRL := Lib.hid hrl
      have hgL := hM.lt
      have hi1 : (0 : Int) ≤ (i : Int) := by omega
      have hi2 : (i : Int) < (n : Int) := by omega
      clear hx hr hrl r0 hr0
      go_wp2_with (at_make; refine wpList_make3 _ rfl (.tmp 22) (.tmp 22) rfl _ _ m1 rfl rfl rfl rfl hm ?_)
      intro w5 hz5 c5
      obtain ⟨h, HH⟩ := name_it wr.heap.size
      rw [HH.out] at hz5 hgL ⊢
      have hMh := (hM.regs (hs := [h]) (fun x hx => .inr (by simp at hx; have := HH.out; omega))).keep0 c5
      have HR5 := Lib.hid (HR.out.keep0 c5)
      replace hch := hch.then c5
      clear c0 hM
      obtain ⟨B9, c9, d0, _, _, _, _⟩ := hMh.at_ (i := i) (by omega)
      have f0 := hMh.frozen i
      have hhl := hch.size
      have HMO := (hMh.openRow (m := m1) (i := i) (by omega) (by omega) (by simp) _ rfl)
      have c7 : Chg [g] w5 (w5.setCell ⟨g, i, none⟩ (.slice (some ⟨h, 0, none⟩) m1 m1)) := (Chg.refl [g] w5).setCell (.inl (by simp)) _
      have hz7 := (hz5.keep c7 (by simp; omega))
      have hch7 := hch.setCell (p := ⟨g, i, none⟩) (.inr hgw) (.slice (some ⟨h, 0, none⟩) m1 m1)
      have HMO2 := Lib.hid HMO
      have HZ7 := Lib.hid hz7
      have HC7 := Lib.hid hch7
      clear hMh hz5 hch c7 c5 HMO hz7 hch7
      have HR7 : Hid (Rds (w5.setCell ⟨g, i, none⟩ (.slice (some ⟨h, 0, none⟩) m1 m1)) Br row) := Lib.hid (HR5.out.keepN ((Chg.refl [g] w5).setCell (.inl (by simp)) _) (fun hl a ha hm => by
        obtain ⟨g9, o9, he, hlt9⟩ := HR0.out.form hl
        rw [he] at ha; cases ha
        simp at hm
        omega))
      have hmm : m ≤ m1 := by have := HM1.out; omega
      go_wp2_with ((refine wpList_copy3 _ rfl (.tmp 28) (.tmp 29) rfl h m1 m1 _ HZ7.out Br m cr row rfl rfl (by simp) HRL.out hmm HR7.out ?_))
      intro w6 hz6 c6
      have HO := HMO2.out.keeph c6
      have hch6 := HC7.out.fresh c6 (by have := HH.out; omega)
      have e1 := (HB.out.keep0 hch6).el (j := i) (by rw [HXL.out]; exact hlt)
      obtain ⟨x, HX⟩ := name_it (xs.getD i q0)
      rw [HX.out] at e1
      have x0 := e1.a
      have x1 := e1.b
      have x2 := e1.c
      have g0 := HO.cell
      have hzl : Hid ((fillL (List.replicate m1 q0) 0 row).length = m1) := Lib.hid (by rw [fillL_length, List.length_replicate])
      have hfin : Hid ((fillL (List.replicate m1 q0) 0 row).set m x = row ++ [x]) := Lib.hid (by rw [← HM1.out]; exact fill_row row x m HRL.out)
      obtain ⟨zs, HZS⟩ := name_it (fillL (List.replicate m1 q0) 0 row)
      rw [HZS.out] at hz6 hzl hfin
      have hmlt : m < m1 := by have := HM1.out; omega
      have hms : m < zs.length := by rw [hzl.out]; exact hmlt
      obtain ⟨s0, s1, s2⟩ := hz6.rds.zero_at (j := m) hms
      have s3 := hz6.frozen (m * 3)
      have s4 := hz6.frozen (m * 3 + 1)
      have s5 := hz6.frozen (m * 3 + 2)
      have i3 : (0 : Int) ≤ (m : Int) := by omega
      have i4 : (m : Int) < (m1 : Int) := by omega
      have c8 : Chg [] w6 w6.drew := (Chg.refl _ _).drew
      have HS := Lib.hid ((hz6.keep c8 (by simp)).store hms x)
      have HOD := Lib.hid (HO.keep0 c8)
      have HCD := Lib.hid (hch6.then c8)
      have HLR : Hid ((row ++ [x]).length = m1) := Lib.hid (by rw [List.length_append, HRL.out]; exact HM1.out)
      clear e1 hms c8
      go_wp2_with fail
      go_region
      go_wp2_with fail
      go_roundw
      case rel => exact ⟨i + 1, M'.set i (row ++ [x]), by omega, by go_num, by rw [List.length_set]; exact hlM, (HOD.out.keeph ((Chg.refl [h] _).store3o (.inl (by simp)) _ _ _)).shut (by have := HS.out.rds; rwa [hfin.out] at this) HLR.out (by omega), fun r hr => by
        rw [getD_setM M' [] _ (by omega)]
        by_cases hri : r = i
        · rw [if_pos hri, hri, HRW.out, HX.out]
        · rw [if_neg hri]; exact HOK.out r (by omega), HCD.out.store3o (.inr (by have := HH.out; omega)) _ _ _⟩
      case measure => simp [intOf]; omega
    · obtain rfl : i = n := by omega
      go_wp2_with fail
      go_ret
      exact ⟨g, M', rfl, hgw, hM, hlM, HOK.out, hch⟩

end Go.Proofs.Ytpaochhaenehmaa

/- Part LX15. -/

namespace Go.Proofs.Ytpaochhaenehmaa
open Go.RowKit Nd
theorem MutV.blt {w : World} {gs : List Nat} {v : Value} {M : List (List Q3)} (h : MutV w gs v M) : ∀ x, x ∈ v.ownBlock.toList → x < w.heap.size := by
  intro x hx
  rcases h.form with ⟨rfl, _⟩ | ⟨g, cap, rfl, hM⟩
  · simp [Value.ownBlock] at hx
  · simp [Value.ownBlock] at hx
    subst hx; exact hM.lt
theorem snoc_all {P : Nat → List Q3 → Prop} {K : List (List Q3)} {z : List Q3} (h : ∀ i, i < K.length → P i (K.getD i [])) (hz : P K.length z) : ∀ i, i < (K ++ [z]).length → P i ((K ++ [z]).getD i []) := by
  intro i hi
  rw [List.length_append, List.length_singleton] at hi
  rw [getD_snocM]
  by_cases h1 : i = K.length
  · rw [if_pos h1, h1]; exact hz
  · rw [if_neg h1]; exact h i (by omega)
/-- The vectors of a kernel: one for each column below c that bears no pivot. -/
structure KRows (KM : List (List Q3)) (F : Nat → Nat → Rat) (pv : List Nat) (m c K : Nat) : Prop where
  len : KM.length = (kcols pv c).length
  row : ∀ i, i < KM.length → Row1 (KM.getD i []) (kvF F pv ((kcols pv c).getD i 0) pv.length) m K
theorem KRows.start (F : Nat → Nat → Rat) (pv : List Nat) (m K : Nat) : KRows [] F pv m 0 K := ⟨rfl, fun i h => absurd h (by simp)⟩
theorem KRows.skip {KM : List (List Q3)} {F : Nat → Nat → Rat} {pv : List Nat} {m c K : Nat} (h : KRows KM F pv m c K) (hc : c ∈ pv) : KRows KM F pv m (c + 1) K := by
  refine ⟨by rw [kcols_in hc]; exact h.len, ?_⟩
  rw [kcols_in hc]; exact h.row
theorem KRows.snoc {KM : List (List Q3)} {F : Nat → Nat → Rat} {pv : List Nat} {m c K : Nat} {z : List Q3} (h : KRows KM F pv m c K) (hc : c ∉ pv) (hz : Row1 z (kvF F pv c pv.length) m K) : KRows (KM ++ [z]) F pv m (c + 1) K := by
  refine ⟨by rw [kcols_out hc, List.length_append, List.length_append, h.len, List.length_singleton, List.length_singleton], ?_⟩
  rw [kcols_out hc]
  refine snoc_all (P := fun i y => Row1 y (kvF F pv ((kcols pv c ++ [c]).getD i 0) pv.length) m K) (fun i hi => ?_) ?_
  · rw [getD_snoc_lt _ _ (by rw [← h.len]; exact hi)]; exact h.row i hi
  · rw [h.len, getD_snoc_eq]; exact hz

set_option maxRecDepth 20000 in
set_option maxHeartbeats 1000000 in
theorem Kernel_bad (M : List (List Q3)) (A : Option Addr) (cap : Nat) (w : World) (hn : M.length ≤ 1000000) (hx : Mtx w A M) (hs : shapeE M ≠ 0) :
    Calls Try.prog 12 #[.slice A M.length cap] w fun e w' => e = .returned (.tuple #[.slice none 0 0, .int .i64 (shapeE M : Nat)]) ∧ Chg [] w w' := by
  have HS0 := Lib.hid hs
  have hs2 := hs
  obtain ⟨s, HS⟩ := name_it (shapeE M)
  rw [HS.out] at hs
  rw [HS.out]
  have hs1 : ((s : Int) != 0) = true := by simp; omega
  clear hs2
  go_enter Try.func12, Try.ntmps12
  go_wp2_with fail
  refine (Reduce_bad M A cap _ hn hx HS0.out).mono ?_
  rintro e w1 ⟨rfl, c1⟩
  rw [HS.out]
  go_wp2_with fail
  go_ret2
  exact ⟨rfl, c1⟩

set_option maxRecDepth 20000 in
set_option maxHeartbeats 8000000 in
theorem Kernel_ok (M : List (List Q3)) (A : Option Addr) (cap : Nat) (k : Nat) (w : World) (hn : M.length ≤ 1000000) (hx : Mtx w A M) (hs : shapeE M = 0) (hk : 1 ≤ k) (hk2 : k ≤ 3000) (hfit : ∀ i, i < M.length → ∀ j, j < (M.getD 0 []).length → fits ((M.getD i []).getD j q0) k) :
    Calls Try.prog 12 #[.slice A M.length cap] w fun e w' => ∃ v KM, e = .returned (.tuple #[v, .int .i64 0]) ∧ MutV w' [] v KM ∧ KRows KM (ech (matQ M) M.length (M.getD 0 []).length).1 (ech (matQ M) M.length (M.getD 0 []).length).2 (M.getD 0 []).length (M.getD 0 []).length (KF (M.getD 0 []).length k + 8) ∧ Chg [] w w' := by
  have RED := Lib.hid (fun (w : World) (hx : Mtx w A M) => Reduce_ok M A cap k w hn hx hs hk hk2 hfit)
  obtain ⟨s0, s1, s2, s3, s4⟩ := shapeE_ok hs
  have HX := Lib.hid hx
  have hasc := Lib.hid (ech_asc (matQ M) M.length (M.getD 0 []).length)
  have HEC := Lib.hid (ech_holds (matQ M) M.length (M.getD 0 []).length)
  have hKF : KF (M.getD 0 []).length k + 8 ≤ 34359738367 := by
    have h1 := small_bound s4 hk2
    have := KK_small (K := k + (1 + (M.getD 0 []).length * k)) (m := (M.getD 0 []).length) (by omega) s4
    unfold KF; omega
  obtain ⟨K, HK⟩ := name_it (KF (M.getD 0 []).length k)
  obtain ⟨pv, HPV⟩ := name_it (ech (matQ M) M.length (M.getD 0 []).length).2
  obtain ⟨F, HFF⟩ := name_it (ech (matQ M) M.length (M.getD 0 []).length).1
  rw [HPV.out] at hasc HEC
  rw [HFF.out] at HEC
  rw [HK.out] at hKF
  rw [HPV.out, HFF.out, HK.out]
  have OPN := Lib.hid (fun (w' : World) gf gp cp Mf (h : Red w w' M k gf gp cp Mf) => (⟨h.lf, h.lp, h.mtr, by have := h.vals; rwa [HFF.out, HK.out] at this, by have := h.row; rwa [HPV.out] at this⟩ : w.heap.size ≤ gf ∧ w.heap.size ≤ gp ∧ Mut w' [] gf M.length Mf ∧ Vals Mf F M.length (M.getD 0 []).length K ∧ Row 3 .i64 w' gp cp pv))
  rw [HPV.out] at RED
  obtain ⟨m, HM⟩ := name_it (M.getD 0 []).length
  rw [HM.out] at OPN HEC s1 s4
  rw [HM.out]
  obtain ⟨n, HN⟩ := name_it M.length
  rw [HN.out] at OPN HEC RED s0 s3
  rw [HN.out]
  have hple := HEC.out.len
  have HPM : Hid (∀ t, t < pv.length → pv.getD t 0 < m) := Lib.hid HEC.out.lt
  clear hx hs hfit s2 hn
  go_enter Try.func12, Try.ntmps12
  go_wp2_with fail
  refine (RED.out _ HX.out).mono ?_
  rintro e w1 ⟨gf, gp, cp, Mf, rfl, hred, hch⟩
  obtain ⟨hgf, hgp, hM, hV, hrow⟩ := OPN.out _ _ _ _ _ hred
  have HV := Lib.hid hV
  have hlf := hV.len
  clear hred hV
  obtain ⟨r0, HR0⟩ := name_it pv.length
  rw [HR0.out] at hple ⊢
  obtain ⟨B0, cc0, d0, _, _, _, _⟩ := hM.at_ (i := 0) (by omega)
  rw [HV.out.row 0 (by omega)] at d0
  have hn1 : (0 : Int) < (n : Int) := by omega
  have hgfl := hM.lt
  have hgpl := hrow.lt
  have hb0 : MutV (w1.alloc (.cells #[] 33)) [] (.slice (some ⟨w1.heap.size, 0, none⟩) 0 0) [] :=
    ⟨[], rfl, World.ownsRow_lit w1 _ 0 (Nat.zero_le _) (by simp only [maxLen]; omega) rfl, fun i h => absurd h (by simp)⟩
  have hM := (hM.regs (hs := [w1.heap.size]) (by simp)).keep0 ((Chg.refl [] w1).alloc (.cells #[] 33))
  replace hrow := hrow.keep ((Chg.refl [] w1).alloc (.cells #[] 33)) (by simp)
  replace hch := hch.alloc (.cells #[] 33)
  go_wp2_with fail
  obtain ⟨g1, HG1⟩ := name_it w1.heap.size
  rw [HG1.out] at hb0 hM hgfl hgpl ⊢
  go_loopw [7, 8, 24] (fun bv qv iv wr => ∃ (c p : Nat) (KM : List (List Q3)), c ≤ m ∧ iv = .int .i64 c ∧ qv = .int .i64 p ∧ Passed pv p c ∧ MutV wr [] bv KM ∧ KRows KM F pv m c (K + 8) ∧ (∀ x, x ∈ bv.ownBlock.toList → gf < x ∧ gp < x) ∧ Mut wr bv.ownBlock.toList gf n Mf ∧ Row 3 .i64 wr gp cp pv ∧ Chg [] w wr) (fun _ _ iv _ => m - (intOf iv).toNat)
  case atStart => exact ⟨0, 0, [], Nat.zero_le _, rfl, rfl, Passed.start _, hb0, KRows.start _ _ _ _, (by simp [Value.ownBlock]; omega), hM, hrow, hch⟩
  case round =>
    clear hb0 hM hrow hch d0
    obtain ⟨c, p, KM, hc, rfl, rfl, hpas, hbv, hkr, hbk, hM, hrow, hch⟩ := hrel
    have HPS := Lib.hid hpas
    have HKR := Lib.hid hkr
    have HBK := Lib.hid hbk
    have HBV := Lib.hid hbv
    have hpl := hpas.le
    rw [HR0.out] at hpl
    clear hpas hkr hbk hbv
    by_cases hlt : c < m
    · have hasc1 := Lib.hid (fun t u h hu => hasc.out t u h hu)
      by_cases hp : p < r0
      · have hpl2 : p < pv.length := by rw [HR0.out]; exact hp
        have q0c := hrow.cell p hpl2
        have HH := Lib.hid (fun h => HPS.out.hit hasc.out hpl2 h)
        have HM0 := Lib.hid (fun h => HPS.out.miss h hasc.out)
        obtain ⟨pc, HPC⟩ := name_it (pv.getD p 0)
        rw [HPC.out] at q0c HH HM0
        have k1 : (0 : Int) ≤ (p : Int) := by omega
        have k2 : (p : Int) < (r0 : Int) := by omega
        clear hpl2
        by_cases he : pc = c
        · subst he
          have HHT := Lib.hid (HH.out rfl)
          clear HH HM0
          go_wp2_with fail
          go_roundw
          case rel => exact ⟨pc + 1, p + 1, KM, by omega, by go_num, by go_num, HHT.out.2, HBV.out, HKR.out.skip HHT.out.1, HBK.out, hM, hrow, hch⟩
          case measure => simp [intOf]; omega
        · have e1 : ((pc : Int) == (c : Int)) = false := by simp; omega
          have HMS := Lib.hid (HM0.out (fun _ => he))
          clear HH HM0 he
          go_wp2_with fail
          rw [← HR0.out]
          refine (kernelVector_any Mf F pv n m K c gf gp cp _ HV.out (by omega) (by omega) (by omega) hlt (by rw [HR0.out]; exact hple) HPM.out hKF hM.mtx hrow).mono ?_
          rintro e w9 ⟨g9, zs, rfl, hg9, hzs, hz, c1⟩
          rw [HR0.out]
          have HZS := Lib.hid hzs
          have hblt := HBV.out.blt
          have hbv := HBV.out.keep0 c1
          replace hM := hM.keep0 c1
          replace hrow := hrow.keep c1 (by simp)
          replace hch := hch.then c1
          have hM9 := hM.lt
          have hp9 := hrow.lt
          have hKl : KM.length ≤ 1000000 := by have h1 := HKR.out.len; have h2 := kcols_len pv c; omega
          have hzr := hz.rds.keep0 ((Chg.refl [] w9).alloc (.cells #[.slice (some ⟨g9, 0, none⟩) m m] 33))
          have hoff : Off (u7.ownBlock.toList ++ []) (some ⟨g9, 0, none⟩) := by
            intro a ha hm
            cases ha
            rw [List.append_nil] at hm
            have := hblt _ hm
            simp only at this
            omega
          have hcl : (w9.alloc (.cells #[.slice (some ⟨g9, 0, none⟩) m m] 33)).cell? ⟨w9.heap.size, 0, none⟩ = some (.slice (some ⟨g9, 0, none⟩) m m) := by simp
          clear hz hzs c1 q0c
          go_wp2_with (at_builtin; refine wpList_appendM _ rfl (.tmp 41) (.tmp 46) rfl [] _ KM rfl (hbv.keep0 ((Chg.refl [] _).alloc _)) ⟨w9.heap.size, 0, none⟩ 1 (some ⟨g9, 0, none⟩) m m zs rfl hcl HZS.out.len (Nat.le_refl _) (by omega) hzr (fun _ => hoff) hKl ?_)
          intro v1 w4 hv1 cv1 hb1
          have HBK1 : Hid (∀ x, x ∈ v1.ownBlock.toList → gf < x ∧ gp < x) := by
            show ∀ _, _
            intro y hy
            rcases hb1 with h | h
            · rw [h] at hy; exact HBK.out y hy
            · rw [h] at hy; simp at hy; omega
          have c10 : Chg [] w9 (w9.alloc (.cells #[.slice (some ⟨g9, 0, none⟩) m m] 33)) := (Chg.refl _ _).alloc _
          have hM5 := (hM.keep0 c10).regs (hs := u7.ownBlock.toList ++ v1.ownBlock.toList) (fun x hx => by
            rcases List.mem_append.1 hx with h | h
            · exact .inl h
            · rcases hb1 with h2 | h2
              · rw [h2] at h; exact .inl h
              · rw [h2] at h; simp at h; exact .inr (by rw [World.size_alloc]; omega))
          have hM6 := Lib.hid ((hM5.keepg cv1 (fun h => by have := HBK.out _ h; omega) (fun x hx => List.mem_append_left _ hx)).regs (hs := v1.ownBlock.toList) (fun x hx => .inl (List.mem_append_right _ hx)))
          have hrow6 := Lib.hid ((hrow.keep c10 (by simp)).keep cv1 (fun h => by have := HBK.out _ h; omega))
          have hch6 := Lib.hid ((hch.then c10).trans cv1 (fun x hx => .inr (by have := HBK.out x hx; omega)))
          have HK6 := Lib.hid (HKR.out.snoc HMS.out.1 HZS.out)
          clear hM hM5 hrow hch cv1 hb1 c10 hbv hzr hoff hcl hblt
          go_wp2_with fail
          go_roundw
          case rel => exact ⟨c + 1, p, KM ++ [zs], by omega, by go_num, rfl, HMS.out.2, hv1, HK6.out, HBK1.out, hM6.out, hrow6.out, hch6.out⟩
          case measure => simp [intOf]; omega
      · have HMS := Lib.hid (HPS.out.miss (fun h => absurd h (by rw [HR0.out]; exact hp)) hasc.out)
        have e1 : decide ((p : Int) < (r0 : Int)) = false := by simp; omega
        go_wp2_with fail
        rw [← HR0.out]
        refine (kernelVector_any Mf F pv n m K c gf gp cp _ HV.out (by omega) (by omega) (by omega) hlt (by rw [HR0.out]; exact hple) HPM.out hKF hM.mtx hrow).mono ?_
        rintro e w9 ⟨g9, zs, rfl, hg9, hzs, hz, c1⟩
        rw [HR0.out]
        have HZS := Lib.hid hzs
        have hblt := HBV.out.blt
        have hbv := HBV.out.keep0 c1
        replace hM := hM.keep0 c1
        replace hrow := hrow.keep c1 (by simp)
        replace hch := hch.then c1
        have hM9 := hM.lt
        have hp9 := hrow.lt
        have hKl : KM.length ≤ 1000000 := by have h1 := HKR.out.len; have h2 := kcols_len pv c; omega
        have hzr := hz.rds.keep0 ((Chg.refl [] w9).alloc (.cells #[.slice (some ⟨g9, 0, none⟩) m m] 33))
        have hoff : Off (u7.ownBlock.toList ++ []) (some ⟨g9, 0, none⟩) := by
          intro a ha hm
          cases ha
          rw [List.append_nil] at hm
          have := hblt _ hm
          simp only at this
          omega
        have hcl : (w9.alloc (.cells #[.slice (some ⟨g9, 0, none⟩) m m] 33)).cell? ⟨w9.heap.size, 0, none⟩ = some (.slice (some ⟨g9, 0, none⟩) m m) := by simp
        clear hz hzs c1
        go_wp2_with (at_builtin; refine wpList_appendM _ rfl (.tmp 41) (.tmp 46) rfl [] _ KM rfl (hbv.keep0 ((Chg.refl [] _).alloc _)) ⟨w9.heap.size, 0, none⟩ 1 (some ⟨g9, 0, none⟩) m m zs rfl hcl HZS.out.len (Nat.le_refl _) (by omega) hzr (fun _ => hoff) hKl ?_)
        intro v1 w4 hv1 cv1 hb1
        have HBK1 : Hid (∀ x, x ∈ v1.ownBlock.toList → gf < x ∧ gp < x) := by
          show ∀ _, _
          intro y hy
          rcases hb1 with h | h
          · rw [h] at hy; exact HBK.out y hy
          · rw [h] at hy; simp at hy; omega
        have c10 : Chg [] w9 (w9.alloc (.cells #[.slice (some ⟨g9, 0, none⟩) m m] 33)) := (Chg.refl _ _).alloc _
        have hM5 := (hM.keep0 c10).regs (hs := u7.ownBlock.toList ++ v1.ownBlock.toList) (fun x hx => by
          rcases List.mem_append.1 hx with h | h
          · exact .inl h
          · rcases hb1 with h2 | h2
            · rw [h2] at h; exact .inl h
            · rw [h2] at h; simp at h; exact .inr (by rw [World.size_alloc]; omega))
        have hM6 := Lib.hid ((hM5.keepg cv1 (fun h => by have := HBK.out _ h; omega) (fun x hx => List.mem_append_left _ hx)).regs (hs := v1.ownBlock.toList) (fun x hx => .inl (List.mem_append_right _ hx)))
        have hrow6 := Lib.hid ((hrow.keep c10 (by simp)).keep cv1 (fun h => by have := HBK.out _ h; omega))
        have hch6 := Lib.hid ((hch.then c10).trans cv1 (fun x hx => .inr (by have := HBK.out x hx; omega)))
        have HK6 := Lib.hid (HKR.out.snoc HMS.out.1 HZS.out)
        clear hM hM5 hrow hch cv1 hb1 c10 hbv hzr hoff hcl hblt
        go_wp2_with fail
        go_roundw
        case rel => exact ⟨c + 1, p, KM ++ [zs], by omega, by go_num, rfl, HMS.out.2, hv1, HK6.out, HBK1.out, hM6.out, hrow6.out, hch6.out⟩
        case measure => simp [intOf]; omega
    · obtain rfl : c = m := by omega
      go_wp2_with fail
      go_ret2
      exact ⟨u7, KM, rfl, HBV.out, HKR.out, hch⟩

end Go.Proofs.Ytpaochhaenehmaa

/- Part LX16. -/

namespace Go.Proofs.Ytpaochhaenehmaa
open Go.RowKit Nd
/-- The numbers of a matrix with a further column. -/
def augQ (M : List (List Q3)) (xs : List Q3) (n : Nat) : Nat → Nat → Rat := fun i j => if j < n then matQ M i j else ratOf (xs.getD i q0)
/-- The bound of the solution's parts. -/
def KS (n k : Nat) : Nat := KK (k + (1 + (n + 1) * k)) n + KK (k + (1 + (n + 1) * k)) n

set_option maxRecDepth 20000 in
set_option maxHeartbeats 4000000 in
theorem Solve_sing (M : List (List Q3)) (xs : List Q3) (A B : Option Addr) (cap cb : Nat) (k : Nat) (w : World) (hx : Mtx w A M) (hb : Rds w B xs) (hs : squareE M = 0) (hxl : xs.length = M.length) (hk : 1 ≤ k) (hk2 : k ≤ 3000) (hfit : ∀ i, i < M.length → ∀ j, j < (M.getD 0 []).length → fits ((M.getD i []).getD j q0) k) (hfx : ∀ j, j < M.length → fits (xs.getD j q0) k) (hlen : (ech (augQ M xs M.length) M.length M.length).2.length < M.length) :
    Calls Try.prog 13 #[.slice A M.length cap, .slice B xs.length cb] w fun e w' => e = .returned (.tuple #[.slice none 0 0, .int .i64 5]) ∧ Chg [] w w' := by
  have SQ := squareE_ok hs
  obtain ⟨s0, s1, s2, s3, s4⟩ := shapeE_ok SQ.1
  have hmm := SQ.2
  have HS0 := Lib.hid hs
  have HX := Lib.hid hx
  have HB := Lib.hid hb
  obtain ⟨n, HN⟩ := name_it M.length
  rw [HN.out] at s0 s3 hxl hlen hmm
  rw [← hmm] at s1 s4 s2 hfit
  rw [HN.out] at s2 hfit hfx
  have HROW := Lib.hid s2
  have HFIT := Lib.hid hfit
  have HFX := Lib.hid hfx
  have HXL := Lib.hid hxl
  clear s2 hfit hfx
  rw [hxl]
  rw [HN.out]
  obtain ⟨ga, oa, rfl, hga⟩ := hx.form (by rw [HN.out]; omega)
  obtain ⟨n1, HN1⟩ := name_it (n + 1)
  obtain ⟨F, HF⟩ := name_it (augQ M xs n)
  rw [HF.out] at hlen
  have hk1 : n1 * k ≤ 17 * 3000 := Nat.mul_le_mul (by have := HN1.out; omega) hk2
  have hK0 : k + (1 + n1 * k) ≤ 60000 := by omega
  have HKK := Lib.hid (KK_small (K := k + (1 + n1 * k)) (m := n) hK0 s4)
  have HB8 : Hid (8 + (n + 1) * (1 + n1 * k) ≤ 4294967296) := Lib.hid (by
    have h2 : (n + 1) * (1 + n1 * k) ≤ 17 * 51001 := Nat.mul_le_mul (by omega) (by omega)
    omega)
  have HK1 : Hid (1 ≤ k + (1 + n1 * k)) := Lib.hid (by omega)
  have hn1s : n1 ≤ 17 := by have := HN1.out; omega
  have HLEN := Lib.hid hlen
  have hch : Chg [] w w := Chg.refl _ _
  have hne : ((n : Int) != (n : Int)) = false := by simp
  clear hk1 hK0 hlen hs hx hb SQ hmm hxl
  go_enter Try.func13, Try.ntmps13
  go_wp2_with fail
  rw [← HN.out]
  refine (checkSquare_any M _ cap _ (by rw [HN.out]; omega) HX.out).mono ?_
  rintro e w1 ⟨rfl, c1⟩
  rw [HS0.out, HN.out]
  replace hch := hch.then c1
  clear c1
  go_wp2_with fail
  refine (extended_any M xs n n _ B cap cb _ HN.out HROW.out HXL.out (by omega) (by omega) (HX.out.keep0 hch) (HB.out.keep0 hch)).mono ?_
  rintro e w2 ⟨g1, M1, rfl, hg1, hM1, hl1, hrow1, c1⟩
  replace hch := hch.then c1
  clear c1
  have hxm := Lib.hid hM1.mtx
  have hrl1 : Hid (∀ i, i < n → (M1.getD i []).length = n1) := Lib.hid fun i hi => by rw [hrow1 i hi, List.length_append, HROW.out i hi]; exact HN1.out
  have hq1 : Hid (∀ i, i < n → ∀ j, j < n1 → ratOf ((M1.getD i []).getD j q0) = F i j) := Lib.hid fun i hi j hj => by
    rw [hrow1 i hi, ← HF.out, getD_snocM, HROW.out i hi]
    unfold augQ matQ
    by_cases h : j = n
    · rw [if_pos h, if_neg (by omega)]
    · rw [if_neg h, if_pos (by have := HN1.out; omega)]
  have hf1 : Hid (∀ i, i < n → ∀ j, j < n1 → fits ((M1.getD i []).getD j q0) k) := Lib.hid fun i hi j hj => by
    rw [hrow1 i hi, getD_snocM, HROW.out i hi]
    by_cases h : j = n
    · rw [if_pos h]; exact HFX.out i hi
    · rw [if_neg h]; exact HFIT.out i hi j (by have := HN1.out; omega)
  have HL1 := Lib.hid hl1
  clear hM1 hrow1 hl1
  go_wp2_with fail
  refine (integral_any M1 n n1 k _ n _ HL1.out hrl1.out hf1.out hk (by omega) (by omega) HB8.out (by omega) hxm.out).mono ?_
  rintro e w3 ⟨g, M2, E, t, z, rfl, hg, hM2, hV2, ht, hz, c1⟩
  have hgw : w.heap.size ≤ g := Nat.le_trans hch.size hg
  have HV2 := Lib.hid hV2
  have hPE : Hid (Prp (ratI E) F n n1) := Lib.hid (prp_of (t := t) fun i hi => ⟨(ht i hi).1, fun j hj => by rw [(ht i hi).2 j hj, hq1.out i hi j hj]⟩)
  replace hch := hch.then c1
  clear c1 ht hV2 hxm hz
  have b1 := Blk3.alloc w3 (.bool z.neg) (.string z.num) (.string z.den) 26
  replace hch := hch.then ((Chg.refl [] _).alloc (.cells #[.bool z.neg, .string z.num, .string z.den] 26))
  obtain ⟨gb1, Gb1⟩ := name_it w3.heap.size
  rw [Gb1.out] at b1
  have hgb1 := Gb1.out
  obtain ⟨wb1, HWb1⟩ := name_it (w3.alloc (.cells #[.bool z.neg, .string z.num, .string z.den] 26))
  rw [HWb1.out] at b1 hch
  have hM := hM2.keep0 ((Chg.refl [] w3).alloc (.cells #[.bool z.neg, .string z.num, .string z.den] 26))
  rw [HWb1.out] at hM
  go_wp2_with fail
  rw [HWb1.out]
  refine (eliminate_any M2 E n n1 (k + (1 + n1 * k)) n g n _ HV2.out HK1.out (by have := HN1.out; omega) (by omega) (by omega) HKK.out hM).mono ?_
  rintro e w4 ⟨gp, cp, M3, E2, rfl, hrow, hgp, hV3, hP3, hM3, c1⟩
  replace hch := hch.fresh c1 hgw
  have hpe := hPE.out.ech n (by have := HN1.out; omega)
  have HP3 := Lib.hid (hP3.trans hpe.2)
  rw [hpe.1]
  have HV3 := Lib.hid hV3
  clear c1 hpe hP3 hV3 hM hM2 hrow b1
  have hl := HLEN.out
  obtain ⟨r0, HR0⟩ := name_it (ech F n n).2.length
  rw [HR0.out] at hl ⊢
  have t1 : decide ((r0 : Int) < (n : Int)) = true := by simp; omega
  go_wp2_with fail
  go_ret2
  exact ⟨rfl, hch⟩

set_option maxRecDepth 20000 in
set_option maxHeartbeats 8000000 in
theorem Solve_ok (M : List (List Q3)) (xs : List Q3) (A B : Option Addr) (cap cb : Nat) (k : Nat) (w : World) (hx : Mtx w A M) (hb : Rds w B xs) (hs : squareE M = 0) (hxl : xs.length = M.length) (hk : 1 ≤ k) (hk2 : k ≤ 3000) (hfit : ∀ i, i < M.length → ∀ j, j < (M.getD 0 []).length → fits ((M.getD i []).getD j q0) k) (hfx : ∀ j, j < M.length → fits (xs.getD j q0) k) (hlen : (ech (augQ M xs M.length) M.length M.length).2.length = M.length) :
    Calls Try.prog 13 #[.slice A M.length cap, .slice B xs.length cb] w fun e w' => ∃ g zs, e = .returned (.tuple #[.slice (some ⟨g, 0, none⟩) M.length M.length, .int .i64 0]) ∧ w.heap.size ≤ g ∧ Row1 zs (fun r => (ech (augQ M xs M.length) M.length M.length).1 r M.length) M.length (KS M.length k) ∧ Nums w' g M.length zs ∧ Chg [] w w' := by
  have SQ := squareE_ok hs
  obtain ⟨s0, s1, s2, s3, s4⟩ := shapeE_ok SQ.1
  have hmm := SQ.2
  have HS0 := Lib.hid hs
  have HX := Lib.hid hx
  have HB := Lib.hid hb
  obtain ⟨n, HN⟩ := name_it M.length
  rw [HN.out] at s0 s3 hxl hlen hmm
  rw [← hmm] at s1 s4 s2 hfit
  rw [HN.out] at s2 hfit hfx
  have HROW := Lib.hid s2
  have HFIT := Lib.hid hfit
  have HFX := Lib.hid hfx
  have HXL := Lib.hid hxl
  clear s2 hfit hfx
  rw [hxl]
  rw [HN.out]
  obtain ⟨ga, oa, rfl, hga⟩ := hx.form (by rw [HN.out]; omega)
  obtain ⟨n1, HN1⟩ := name_it (n + 1)
  obtain ⟨F, HF⟩ := name_it (augQ M xs n)
  rw [HF.out] at hlen
  have hk1 : n1 * k ≤ 17 * 3000 := Nat.mul_le_mul (by have := HN1.out; omega) hk2
  have hK0 : k + (1 + n1 * k) ≤ 60000 := by omega
  have HKK := Lib.hid (KK_small (K := k + (1 + n1 * k)) (m := n) hK0 s4)
  have HB8 : Hid (8 + (n + 1) * (1 + n1 * k) ≤ 4294967296) := Lib.hid (by
    have h2 : (n + 1) * (1 + n1 * k) ≤ 17 * 51001 := Nat.mul_le_mul (by omega) (by omega)
    omega)
  have HK1 : Hid (1 ≤ k + (1 + n1 * k)) := Lib.hid (by omega)
  have hn1s : n1 ≤ 17 := by have := HN1.out; omega
  have HLEN := Lib.hid hlen
  have hch : Chg [] w w := Chg.refl _ _
  have hne : ((n : Int) != (n : Int)) = false := by simp
  rw [HF.out]
  obtain ⟨f, Hf⟩ := name_it (ech F n n).1
  rw [Hf.out]
  obtain ⟨K, HK⟩ := name_it (KK (k + (1 + n1 * k)) n)
  have hKS : KS n k = K + K := by unfold KS; rw [HN1.out, HK.out]
  rw [hKS]
  clear hk1 hK0 hlen hs hx hb SQ hmm hxl
  go_enter Try.func13, Try.ntmps13
  go_wp2_with fail
  rw [← HN.out]
  refine (checkSquare_any M _ cap _ (by rw [HN.out]; omega) HX.out).mono ?_
  rintro e w1 ⟨rfl, c1⟩
  rw [HS0.out, HN.out]
  replace hch := hch.then c1
  clear c1
  go_wp2_with fail
  refine (extended_any M xs n n _ B cap cb _ HN.out HROW.out HXL.out (by omega) (by omega) (HX.out.keep0 hch) (HB.out.keep0 hch)).mono ?_
  rintro e w2 ⟨g1, M1, rfl, hg1, hM1, hl1, hrow1, c1⟩
  replace hch := hch.then c1
  clear c1
  have hxm := Lib.hid hM1.mtx
  have hrl1 : Hid (∀ i, i < n → (M1.getD i []).length = n1) := Lib.hid fun i hi => by rw [hrow1 i hi, List.length_append, HROW.out i hi]; exact HN1.out
  have hq1 : Hid (∀ i, i < n → ∀ j, j < n1 → ratOf ((M1.getD i []).getD j q0) = F i j) := Lib.hid fun i hi j hj => by
    rw [hrow1 i hi, ← HF.out, getD_snocM, HROW.out i hi]
    unfold augQ matQ
    by_cases h : j = n
    · rw [if_pos h, if_neg (by omega)]
    · rw [if_neg h, if_pos (by have := HN1.out; omega)]
  have hf1 : Hid (∀ i, i < n → ∀ j, j < n1 → fits ((M1.getD i []).getD j q0) k) := Lib.hid fun i hi j hj => by
    rw [hrow1 i hi, getD_snocM, HROW.out i hi]
    by_cases h : j = n
    · rw [if_pos h]; exact HFX.out i hi
    · rw [if_neg h]; exact HFIT.out i hi j (by have := HN1.out; omega)
  have HL1 := Lib.hid hl1
  clear hM1 hrow1 hl1
  go_wp2_with fail
  refine (integral_any M1 n n1 k _ n _ HL1.out hrl1.out hf1.out hk (by omega) (by omega) HB8.out (by omega) hxm.out).mono ?_
  rintro e w3 ⟨g, M2, E, t, z, rfl, hg, hM2, hV2, ht, hz, c1⟩
  have hgw : w.heap.size ≤ g := Nat.le_trans hch.size hg
  have HV2 := Lib.hid hV2
  have hPE : Hid (Prp (ratI E) F n n1) := Lib.hid (prp_of (t := t) fun i hi => ⟨(ht i hi).1, fun j hj => by rw [(ht i hi).2 j hj, hq1.out i hi j hj]⟩)
  replace hch := hch.then c1
  clear c1 ht hV2 hxm hz
  have b1 := Blk3.alloc w3 (.bool z.neg) (.string z.num) (.string z.den) 26
  replace hch := hch.then ((Chg.refl [] _).alloc (.cells #[.bool z.neg, .string z.num, .string z.den] 26))
  obtain ⟨gb1, Gb1⟩ := name_it w3.heap.size
  rw [Gb1.out] at b1
  have hgb1 := Gb1.out
  obtain ⟨wb1, HWb1⟩ := name_it (w3.alloc (.cells #[.bool z.neg, .string z.num, .string z.den] 26))
  rw [HWb1.out] at b1 hch
  have hM := hM2.keep0 ((Chg.refl [] w3).alloc (.cells #[.bool z.neg, .string z.num, .string z.den] 26))
  rw [HWb1.out] at hM
  go_wp2_with fail
  rw [HWb1.out]
  refine (eliminate_any M2 E n n1 (k + (1 + n1 * k)) n g n _ HV2.out HK1.out (by have := HN1.out; omega) (by omega) (by omega) HKK.out hM).mono ?_
  rintro e w4 ⟨gp, cp, M3, E2, rfl, hrow, hgp, hV3, hP3, hM3, c1⟩
  replace hch := hch.fresh c1 hgw
  have hpe := hPE.out.ech n (by have := HN1.out; omega)
  have HP3 := Lib.hid (hP3.trans hpe.2)
  rw [hpe.1]
  have HV3 := Lib.hid hV3
  clear c1 hpe hP3 hV3 hM hM2 hrow b1
  rw [HLEN.out]
  have EH := Lib.hid (ech_holds F n n)
  have HFO : Hid (∀ r, r < n → ratI E2 r r ≠ 0 ∧ ratI E2 r n / ratI E2 r r = (ech F n n).1 r n) := Lib.hid fun r hr => by
    have hr2 : r < (ech F n n).2.length := by rw [HLEN.out]; exact hr
    have h1 := HP3.out.form EH.out hr2 (by have := EH.out.lt r hr2; have := HN1.out; omega) (show n < n1 by have := HN1.out; omega)
    rwa [asc_full HLEN.out (ech_asc F n n) EH.out.lt r hr] at h1
  rw [Hf.out] at HFO
  rw [HK.out] at HV3 HKK
  have hKl := HKK.out
  have t1 : decide ((n : Int) < (n : Int)) = false := by simp
  have hg0 := hM3.lt
  go_wp2_with (at_make; refine wpList_make3 _ rfl (.tmp 38) (.tmp 38) rfl _ _ n rfl rfl rfl rfl (by omega) ?_)
  intro w5 hz c1
  obtain ⟨gx, HG⟩ := name_it w4.heap.size
  rw [HG.out] at hz hg0 ⊢
  have hgx : w.heap.size ≤ gx := by rw [← HG.out]; exact hch.size
  have hM4 := (hM3.regs (hs := [gx]) (fun x hx => .inr (by simp at hx; have := HG.out; omega))).keep0 c1
  replace hch := hch.then c1
  clear c1 hM3
  go_wp2_with fail
  go_loopw [42] (fun iv wr => ∃ (i : Nat) (zs : List Q3), i ≤ n ∧ iv = .int .i64 i ∧ zs.length = n ∧ (∀ r, r < i → Val (zs.getD r q0) (f r n) (K + K)) ∧ Nums wr gx n zs ∧ Mut wr [gx] g n M3 ∧ Chg [] w wr) (fun iv _ => n - (intOf iv).toNat)
  case atStart => exact ⟨0, _, Nat.zero_le _, rfl, by simp, fun r h => absurd h (by omega), hz, hM4, hch⟩
  case round =>
    clear hz hM4 hch
    obtain ⟨i, zs, hi, rfl, hlz, hval, hz, hM4, hch⟩ := hrel
    have HVAL := Lib.hid hval
    clear hval
    by_cases hlt : i < n
    · have R1 := Lib.hid (HV3.out.at_ hlt)
      have hl3 := HV3.out.len
      obtain ⟨B2, c2, d0, hd1, hd2, hB2, oB2⟩ := hM4.at_ (i := i) (by omega)
      have hFO := HFO.out i hlt
      obtain ⟨y, HY⟩ := name_it (M3.getD i [])
      rw [HY.out] at d0 hd1 hB2 oB2 R1
      have hyl := R1.out.len
      rw [hyl] at d0
      have hnn : n < n1 := by have := HN1.out; omega
      obtain ⟨g2, o2, rfl, _⟩ := hB2.form (by omega)
      have e1 := hB2.el (j := n) (by omega)
      have e2 := hB2.el (j := i) (by omega)
      have v1 := R1.out.val n hnn
      have v2 := R1.out.val i (by omega)
      obtain ⟨x1, HX1⟩ := name_it (y.getD n q0)
      obtain ⟨x2, HX2⟩ := name_it (y.getD i q0)
      rw [HX1.out] at e1 v1
      rw [HX2.out] at e2 v2
      obtain ⟨p, HP⟩ := name_it (ratI E2 i n)
      obtain ⟨q, HQ⟩ := name_it (ratI E2 i i)
      rw [HP.out] at v1 hFO
      rw [HQ.out] at v2 hFO
      have HQ0 := Lib.hid hFO.1
      have HPQ := Lib.hid hFO.2
      have hgg : g2 ≠ gx := fun h => oB2 (by omega) _ rfl (by simp [h])
      have j1 : (0 : Int) ≤ (i : Int) := by omega
      have j2 : (i : Int) < (n : Int) := by omega
      have j3 : (i : Int) < (n1 : Int) := by omega
      have j4 : (n : Int) < (n1 : Int) := by omega
      have a0 := e1.a
      have a1 := e1.b
      have a2 := e1.c
      have b0 := e2.a
      have b1 := e2.b
      have b2 := e2.c
      have ex := e1
      have ey := e2
      have hM4l := hM4.lt
      have hggx : g ≠ gx := by omega
      clear e1 e2 hi hFO oB2 hB2 hd1
      go_wp2_with fail
      clear a0 a1 a2 b0 b1 b2 d0
      have c8 : Chg [] wr wr.drew := (Chg.refl _ _).drew
      replace ex := ex.keep0 c8
      replace ey := ey.keep0 c8
      replace hz := hz.keep c8 (by simp)
      replace hM4 := hM4.keep0 c8
      replace hch := hch.then c8
      clear c8
      go_region_held3 (fun w' => w'.cell? ⟨g2, o2 + n * 3, none⟩ = some (.bool x1.neg) ∧ w'.cell? ⟨g2, o2 + n * 3 + 1, none⟩ = some (.string x1.num) ∧ w'.cell? ⟨g2, o2 + n * 3 + 2, none⟩ = some (.string x1.den) ∧ w'.cell? ⟨g2, o2 + i * 3, none⟩ = some (.bool x2.neg) ∧ w'.cell? ⟨g2, o2 + i * 3 + 1, none⟩ = some (.string x2.num) ∧ w'.cell? ⟨g2, o2 + i * 3 + 2, none⟩ = some (.string x2.den)) (first | exact ⟨ex.a, ex.b, ex.c, ey.a, ey.b, ey.c⟩ | exact ⟨(ex.st hgg _ _ _).a, (ex.st hgg _ _ _).b, (ex.st hgg _ _ _).c, (ey.st hgg _ _ _).a, (ey.st hgg _ _ _).b, (ey.st hgg _ _ _).c⟩) (first
          | (go_at_call 25
             (with_reducible refine (DivideN x1 x2 p q K K _ v1.num v2.num HQ0.out (by omega)).mono ?_)
             rintro e w9 ⟨z, rfl, hzv, c1⟩
             replace ex := ex.keep0 c1
             replace ey := ey.keep0 c1
             replace hz := hz.keep c1 (by simp)
             replace hM4 := hM4.keep0 c1
             replace hch := hch.then c1
             clear c1
             obtain ⟨s0, s1, s2⟩ := hz.rds.zero_at (j := i) (by omega)
             have s3 := hz.frozen (i * 3)
             have s4 := hz.frozen (i * 3 + 1)
             have s5 := hz.frozen (i * 3 + 2)))
      all_goals
        rw [HPQ.out] at hzv
        have HNX := Lib.hid (nums_set (P := fun t z => Val z (f t n) (K + K)) (z := z) (by omega : i < zs.length) HVAL.out hzv)
        clear hzv
        go_wp2_with fail
        go_roundw
        case rel => exact ⟨i + 1, zs.set i z, by omega, by go_num, by rw [List.length_set]; exact hlz, HNX.out, hz.store (by omega) z, hM4.keepg ((Chg.refl [gx] _).store3o (.inl (by simp)) _ _ _) (by simpa using hggx) (fun x hx => hx), hch.store3o (.inr hgx) _ _ _⟩
        case measure => simp [intOf]; omega
    · obtain rfl : i = n := by omega
      go_wp2_with fail
      go_ret2
      exact ⟨gx, zs, rfl, hgx, ⟨hlz, HVAL.out⟩, hz, hch⟩

end Go.Proofs.Ytpaochhaenehmaa

/- Part LX17. -/

namespace Go.Proofs.Ytpaochhaenehmaa
open Go.RowKit Nd
theorem ech_congr {f g : Nat → Nat → Rat} {n m : Nat} (h : ∀ i, i < n → ∀ j, j < m → f i j = g i j) : ∀ c, c ≤ m → (ech f n c).2 = (ech g n c).2 ∧ ∀ i, i < n → ∀ j, j < m → (ech f n c).1 i j = (ech g n c).1 i j
  | 0, _ => ⟨rfl, h⟩
  | c + 1, hc => by
    obtain ⟨h1, h2⟩ := ech_congr h c (by omega)
    have hF := ech_holds g n c
    have hp : pivR (ech f n c).1 n (ech g n c).2.length c = pivR (ech g n c).1 n (ech g n c).2.length c := pivR_congr hF.len (fun i _ hi => by rw [h2 i hi c (by omega)])
    rw [ech, ech, h1, hp]
    by_cases hlt : pivR (ech g n c).1 n (ech g n c).2.length c < n
    · rw [if_pos hlt, if_pos hlt]
      refine ⟨rfl, fun i hi j hj => ?_⟩
      show stp _ _ _ _ i j = stp _ _ _ _ i j
      have hb := pivR_le (f := (ech g n c).1) (c := c) hF.len
      have hsw : ∀ i, i < n → ∀ j, j < m → swp (ech f n c).1 (ech g n c).2.length (pivR (ech g n c).1 n (ech g n c).2.length c) i j = swp (ech g n c).1 (ech g n c).2.length (pivR (ech g n c).1 n (ech g n c).2.length c) i j := by
        intro i hi j hj
        unfold swp
        by_cases e1 : i = (ech g n c).2.length
        · simp only [e1, if_true]; exact h2 _ hlt j hj
        · by_cases e2 : i = pivR (ech g n c).1 n (ech g n c).2.length c
          · rw [if_neg e1, if_neg e1, if_pos e2, if_pos e2]; exact h2 _ (by omega) j hj
          · rw [if_neg e1, if_neg e1, if_neg e2, if_neg e2]; exact h2 i hi j hj
      by_cases e1 : i = (ech g n c).2.length
      · subst e1; rw [stp_r, stp_r, h2 _ hlt j hj, h2 _ hlt c (by omega)]
      · rw [stp_ne _ j e1, stp_ne _ j e1, hsw i hi j hj, hsw i hi c (by omega), h2 _ hlt j hj, h2 _ hlt c (by omega)]
    · rw [if_neg hlt, if_neg hlt]; exact ⟨h1, h2⟩
/-- The chapter's example. -/
def exG : Nat → Nat → Rat := fun i j => if i = 0 then (if j = 0 then 1 else 2) else (if j = 0 then 2 else 4)
theorem exG_piv : (ech exG 2 2).2 = [0] := by decide +kernel
theorem exG_val : (ech exG 2 2).1 0 1 = 2 := by decide +kernel
theorem exQ {z1 z2 z3 z4 : Q3} {k : Nat} (h1 : Val z1 1 k) (h2 : Val z2 2 k) (h3 : Val z3 2 k) (h4 : Val z4 4 k) : ∀ i, i < 2 → ∀ j, j < 2 → matQ [[z1, z2], [z3, z4]] i j = exG i j := by
  intro i hi j hj
  unfold matQ exG
  rcases (by omega : i = 0 ∨ i = 1) with rfl | rfl
  · rcases (by omega : j = 0 ∨ j = 1) with rfl | rfl
    · exact h1.num.rat
    · exact h2.num.rat
  · rcases (by omega : j = 0 ∨ j = 1) with rfl | rfl
    · exact h3.num.rat
    · exact h4.num.rat
theorem ratOf_q0 : ratOf q0 = 0 := Val_zero.num.rat

theorem rds_two (w : World) (x y : Q3) : Rds (w.alloc (.cells #[.bool x.neg, .string x.num, .string x.den, .bool y.neg, .string y.num, .string y.den] 26)) (some ⟨w.heap.size, 0, none⟩) [x, y] := by
  intro _
  refine ⟨_, 0, rfl, by simp, fun j hj => ?_⟩
  rcases (by simp at hj; omega : j = 0 ∨ j = 1) with rfl | rfl
  · simp
  · simp
theorem mtx_two (w : World) (A B : Nat) (r s : List Q3) (n : Nat) (h1 : r.length = n) (h2 : s.length = n) (hn : n ≤ 1000000) (hr : Rds w (some ⟨A, 0, none⟩) r) (hs : Rds w (some ⟨B, 0, none⟩) s) :
    Mtx (w.alloc (.cells #[.slice (some ⟨A, 0, none⟩) n n, .slice (some ⟨B, 0, none⟩) n n] 33)) (some ⟨w.heap.size, 0, none⟩) [r, s] := by
  intro _
  refine ⟨_, 0, rfl, by simp, fun j hj => ?_⟩
  rcases (by simp at hj; omega : j = 0 ∨ j = 1) with rfl | rfl
  · exact ⟨some ⟨A, 0, none⟩, n, by simp [h1], by simp [h1], by omega, hr.keep0 ((Chg.refl [] w).alloc _)⟩
  · exact ⟨some ⟨B, 0, none⟩, n, by simp [h2], by simp [h2], by omega, hs.keep0 ((Chg.refl [] w).alloc _)⟩

theorem ex_shape (z1 z2 z3 z4 : Q3) : shapeE [[z1, z2], [z3, z4]] = 0 :=
  shapeE_good (by simp) (by simp) (fun i hi => by
    rcases (by simp at hi; omega : i = 0 ∨ i = 1) with rfl | rfl
    · rfl
    · rfl) (by simp) (by simp)
theorem ex_fits {z1 z2 z3 z4 : Q3} {k : Nat} {a b c d : Rat} (h1 : Val z1 a k) (h2 : Val z2 b k) (h3 : Val z3 c k) (h4 : Val z4 d k) : ∀ i, i < [[z1, z2], [z3, z4]].length → ∀ j, j < ([[z1, z2], [z3, z4]].getD 0 []).length → fits (([[z1, z2], [z3, z4]].getD i []).getD j q0) k := by
  intro i hi j hj
  rcases (by simp at hi; omega : i = 0 ∨ i = 1) with rfl | rfl
  · rcases (by simp at hj; omega : j = 0 ∨ j = 1) with rfl | rfl
    · exact h1.num.fit
    · exact h2.num.fit
  · rcases (by simp at hj; omega : j = 0 ∨ j = 1) with rfl | rfl
    · exact h3.num.fit
    · exact h4.num.fit
theorem ex_sing {z1 z2 z3 z4 : Q3} {k : Nat} (h1 : Val z1 1 k) (h2 : Val z2 2 k) (h3 : Val z3 2 k) (h4 : Val z4 4 k) : (ech (augQ [[z1, z2], [z3, z4]] [q0, q0] 2) 2 2).2.length < 2 := by
  rw [(ech_congr (g := exG) (m := 2) (fun i hi j hj => by unfold augQ; rw [if_pos hj]; exact exQ h1 h2 h3 h4 i hi j hj) 2 (Nat.le_refl _)).1, exG_piv]
  decide

theorem kcols_ex : kcols [0] 2 = [1] := by decide
theorem ex_ker {z1 z2 z3 z4 : Q3} {k K : Nat} {KM : List (List Q3)} (h1 : Val z1 1 k) (h2 : Val z2 2 k) (h3 : Val z3 2 k) (h4 : Val z4 4 k)
    (hK : KRows KM (ech (matQ [[z1, z2], [z3, z4]]) 2 2).1 (ech (matQ [[z1, z2], [z3, z4]]) 2 2).2 2 2 K) : KM.length = 1 ∧ (KM.getD 0 []).length = 2 ∧ Val ((KM.getD 0 []).getD 0 q0) ((-2 : Int) : Rat) K ∧ Val ((KM.getD 0 []).getD 1 q0) ((1 : Int) : Rat) K := by
  obtain ⟨e1, e2⟩ := ech_congr (g := exG) (m := 2) (exQ h1 h2 h3 h4) 2 (Nat.le_refl _)
  rw [e1, exG_piv] at hK
  have hl := hK.len
  rw [kcols_ex] at hl
  have hl1 : KM.length = 1 := hl
  have hr := hK.row 0 (by omega)
  rw [kcols_ex] at hr
  refine ⟨hl1, hr.len, ?_, ?_⟩
  · have := hr.val 0 (by omega)
    simp only [List.length_singleton, kvF, List.getD_cons_zero, if_true, e2 0 (by omega) 1 (by omega), exG_val] at this
    exact this
  · have := hr.val 1 (by omega)
    simp only [List.length_singleton, kvF, List.getD_cons_zero, if_true] at this
    exact this

set_option maxRecDepth 20000 in
set_option maxHeartbeats 4000000 in
theorem awake3_any (w : World) : Calls Try.prog 7 #[] w fun e w' => e = .returned (.bool true) ∧ Chg [] w w' := by
  have hch : Chg [] w w := Chg.refl _ _
  go_enter Try.func7, Try.ntmps7
  go_wp2_with fail
  refine (IntV 1 _ (by omega) (by omega)).mono ?_
  rintro e w1 ⟨z1, rfl, h1, c1⟩
  have H1 := Lib.hid h1
  replace hch := hch.then c1
  clear c1 h1
  go_wp2_with fail
  refine (IntV 2 _ (by omega) (by omega)).mono ?_
  rintro e w2 ⟨z2, rfl, h2, c1⟩
  have H2 := Lib.hid h2
  replace hch := hch.then c1
  clear c1 h2
  have r1 := rds_two w2 z1 z2
  replace hch := hch.then ((Chg.refl [] w2).alloc (.cells #[.bool z1.neg, .string z1.num, .string z1.den, .bool z2.neg, .string z2.num, .string z2.den] 26))
  obtain ⟨g1, G1⟩ := name_it w2.heap.size
  rw [G1.out] at r1
  have hg1 := G1.out
  go_wp2_with fail
  refine (IntV 2 _ (by omega) (by omega)).mono ?_
  rintro e w3 ⟨z3, rfl, h3, c1⟩
  have H3 := Lib.hid h3
  replace r1 := r1.keep0 c1
  replace hch := hch.then c1
  clear c1 h3
  go_wp2_with fail
  refine (IntV 4 _ (by omega) (by omega)).mono ?_
  rintro e w4 ⟨z4, rfl, h4, c1⟩
  have H4 := Lib.hid h4
  replace r1 := r1.keep0 c1
  replace hch := hch.then c1
  clear c1 h4
  have r2 := rds_two w4 z3 z4
  have c1 : Chg [] w4 (w4.alloc (.cells #[.bool z3.neg, .string z3.num, .string z3.den, .bool z4.neg, .string z4.num, .string z4.den] 26)) := (Chg.refl [] w4).alloc _
  replace r1 := r1.keep0 c1
  replace hch := hch.then c1
  clear c1
  obtain ⟨g2, G2⟩ := name_it w4.heap.size
  rw [G2.out] at r2
  have hg2 := G2.out
  obtain ⟨w5, HW5⟩ := name_it (w4.alloc (.cells #[.bool z3.neg, .string z3.num, .string z3.den, .bool z4.neg, .string z4.num, .string z4.den] 26))
  rw [HW5.out] at r1 r2 hch
  have hM := mtx_two w5 g1 g2 [z1, z2] [z3, z4] 2 rfl rfl (by omega) r1 r2
  have c1 : Chg [] w5 (w5.alloc (.cells #[.slice (some ⟨g1, 0, none⟩) 2 2, .slice (some ⟨g2, 0, none⟩) 2 2] 33)) := (Chg.refl [] w5).alloc _
  replace hch := hch.then c1
  clear c1 r1 r2
  have hg3 : w5.heap.size = g2 + 1 := by rw [← HW5.out, World.size_alloc, hg2]
  rw [hg3] at hM
  obtain ⟨w6, HW6⟩ := name_it (w5.alloc (.cells #[.slice (some ⟨g1, 0, none⟩) 2 2, .slice (some ⟨g2, 0, none⟩) 2 2] 33))
  rw [HW6.out] at hM hch
  have hb : Rds (w6.alloc (.cells #[.bool false, .string ⟨#[]⟩, .string ⟨#[]⟩, .bool false, .string ⟨#[]⟩, .string ⟨#[]⟩] 26)) (some ⟨w6.heap.size, 0, none⟩) [q0, q0] := rds_two w6 q0 q0
  have c1 : Chg [] w6 (w6.alloc (.cells #[.bool false, .string ⟨#[]⟩, .string ⟨#[]⟩, .bool false, .string ⟨#[]⟩, .string ⟨#[]⟩] 26)) := (Chg.refl [] w6).alloc _
  replace hM := hM.keep0 c1
  replace hch := hch.then c1
  clear c1
  have hg4 : w6.heap.size = g2 + 2 := by rw [← HW6.out, World.size_alloc, hg3]
  rw [hg4] at hb
  obtain ⟨w7, HW7⟩ := name_it (w6.alloc (.cells #[.bool false, .string ⟨#[]⟩, .string ⟨#[]⟩, .bool false, .string ⟨#[]⟩, .string ⟨#[]⟩] 26))
  rw [HW7.out] at hM hch hb
  have V1 : Hid (Val z1 1 8) := Lib.hid (by have := H1.out; simpa using this)
  have V2 : Hid (Val z2 2 8) := Lib.hid (by have := H2.out; simpa using this)
  have V3 : Hid (Val z3 2 8) := Lib.hid (by have := H3.out; simpa using this)
  have V4 : Hid (Val z4 4 8) := Lib.hid (by have := H4.out; simpa using this)
  go_wp2_with fail
  rw [HW5.out, HW6.out, HW7.out]
  refine (Solve_sing [[z1, z2], [z3, z4]] [q0, q0] _ _ 2 2 8 _ hM hb (squareE_zero (ex_shape _ _ _ _) rfl) rfl (by omega) (by omega) (ex_fits V1.out V2.out V3.out V4.out) (fun j hj => by
    rcases (by simp at hj; omega : j = 0 ∨ j = 1) with rfl | rfl
    · exact (Val_zero.mono (show 1 ≤ 8 by omega)).num.fit
    · exact (Val_zero.mono (show 1 ≤ 8 by omega)).num.fit) (ex_sing V1.out V2.out V3.out V4.out)).mono ?_
  rintro e w8 ⟨rfl, c1⟩
  replace hM := hM.keep0 c1
  replace hch := hch.then c1
  clear c1 hb
  go_wp2_with fail
  refine (Kernel_ok [[z1, z2], [z3, z4]] _ 2 8 _ (by simp) hM (ex_shape _ _ _ _) (by omega) (by omega) (ex_fits V1.out V2.out V3.out V4.out)).mono ?_
  rintro e w9 ⟨v, KM, rfl, hV, hK, c1⟩
  replace hch := hch.then c1
  clear c1 hM
  obtain ⟨l1, l2, hy0, hy1⟩ := ex_ker V1.out V2.out V3.out V4.out hK
  rcases hV.form with ⟨_, h⟩ | ⟨gv, cv, rfl, hM⟩
  · rw [h] at l1; simp at l1
  obtain ⟨B, cB, d0, _, _, hB, _⟩ := hM.at_ (i := 0) (by omega)
  rw [l1]
  obtain ⟨y, HY⟩ := name_it (KM.getD 0 [])
  rw [HY.out] at l2 hy0 hy1 d0 hB
  rw [l2] at d0
  obtain ⟨gk, ok, rfl, _⟩ := hB.form (by omega)
  have e1 := hB.el (j := 0) (by omega)
  have e2 := hB.el (j := 1) (by omega)
  obtain ⟨y0, HY0⟩ := name_it (y.getD 0 q0)
  obtain ⟨y1, HY1⟩ := name_it (y.getD 1 q0)
  rw [HY0.out] at e1 hy0
  rw [HY1.out] at e2 hy1
  have W0 := Lib.hid hy0
  have W1 := Lib.hid hy1
  have hgv := hM.lt
  clear l1 hy0 hy1 hB hV hK hM
  simp only [Nat.zero_mul, Nat.one_mul, Nat.add_zero] at e1 e2
  go_upto_region 4 with fail
  have c8 : Chg [] w9 w9.drew := (Chg.refl _ _).drew
  replace e1 := e1.keep0 c8
  replace e2 := e2.keep0 c8
  replace d0 := (c8.cell (p := ⟨gv, 0, none⟩) hgv (by simp)).trans d0
  replace hgv := Nat.lt_of_lt_of_le hgv c8.size
  replace hch := hch.then c8
  clear c8
  go_region_held3 (fun w' => w'.cell? ⟨gv, 0, none⟩ = some (.slice (some ⟨gk, ok, none⟩) 2 cB) ∧ w'.cell? ⟨gk, ok, none⟩ = some (.bool y0.neg) ∧ w'.cell? ⟨gk, ok + 1, none⟩ = some (.string y0.num) ∧ w'.cell? ⟨gk, ok + 2, none⟩ = some (.string y0.den) ∧ w'.cell? ⟨gk, ok + 3, none⟩ = some (.bool y1.neg) ∧ w'.cell? ⟨gk, ok + 3 + 1, none⟩ = some (.string y1.num) ∧ w'.cell? ⟨gk, ok + 3 + 2, none⟩ = some (.string y1.den)) (first | exact ⟨d0, e1.a, e1.b, e1.c, e2.a, e2.b, e2.c⟩) (first
      | (go_at_call 22
         (with_reducible refine (IntV (-2) _ (by omega) (by omega)).mono ?_)
         rintro e w10 ⟨z, rfl, hz, c1⟩
         obtain rfl := W0.out.unique hz
         replace d0 := (c1.cell (p := ⟨gv, 0, none⟩) hgv (by simp)).trans d0
         replace hgv := Nat.lt_of_lt_of_le hgv c1.size
         replace e1 := e1.keep0 c1
         replace e2 := e2.keep0 c1
         replace hch := hch.then c1
         clear c1 hz)
      | (go_at_call 22
         (with_reducible refine (IntV 1 _ (by omega) (by omega)).mono ?_)
         rintro e w10 ⟨z, rfl, hz, c1⟩
         obtain rfl := W1.out.unique hz
         replace d0 := (c1.cell (p := ⟨gv, 0, none⟩) hgv (by simp)).trans d0
         replace hgv := Nat.lt_of_lt_of_le hgv c1.size
         replace e1 := e1.keep0 c1
         replace e2 := e2.keep0 c1
         replace hch := hch.then c1
         clear c1 hz))
  all_goals
    go_wp2_with fail
    go_ret
    exact ⟨ret_eq (by simp), hch⟩

end Go.Proofs.Ytpaochhaenehmaa
