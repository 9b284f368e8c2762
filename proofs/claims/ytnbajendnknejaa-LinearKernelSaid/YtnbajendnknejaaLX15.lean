/-
  Kernel.
-/
import Derived.Test.YtnbajendnknejaaLX14
namespace Go.Proofs.Ytnbajendnknejaa
open Go.RowKit Nd
theorem MutV.blt {w : World} {gs : List Nat} {v : Value} {M : List (List Q3)} (h : MutV w gs v M) : ∀ x, x ∈ v.ownBlock.toList → x < w.heap.size := by
  intro x hx
  rcases h.form with ⟨rfl, _⟩ | ⟨g, cap, rfl, hM⟩
  · simp [Value.ownBlock] at hx
  · simp [Value.ownBlock] at hx
    subst hx; exact hM.lt
theorem snoc_all {P : Nat → List Q3 → Prop} {K : List (List Q3)} {z : List Q3} (h : ∀ i, i < K.length → P i (K.getD i [])) (hz : P K.length z) : ∀ i, i < (K ++ [z]).length → P i ((K ++ [z]).getD i []) := by
  intro i hi
  rw [List.length_append, List.length_singleton] at hi
  rw [getD_snocM]
  by_cases h1 : i = K.length
  · rw [if_pos h1, h1]; exact hz
  · rw [if_neg h1]; exact h i (by omega)
/-- The vectors of a kernel: one for each column below c that bears no pivot. -/
structure KRows (KM : List (List Q3)) (F : Nat → Nat → Rat) (pv : List Nat) (m c K : Nat) : Prop where
  len : KM.length = (kcols pv c).length
  row : ∀ i, i < KM.length → Row1 (KM.getD i []) (kvF F pv ((kcols pv c).getD i 0) pv.length) m K
theorem KRows.start (F : Nat → Nat → Rat) (pv : List Nat) (m K : Nat) : KRows [] F pv m 0 K := ⟨rfl, fun i h => absurd h (by simp)⟩
theorem KRows.skip {KM : List (List Q3)} {F : Nat → Nat → Rat} {pv : List Nat} {m c K : Nat} (h : KRows KM F pv m c K) (hc : c ∈ pv) : KRows KM F pv m (c + 1) K := by
  refine ⟨by rw [kcols_in hc]; exact h.len, ?_⟩
  rw [kcols_in hc]; exact h.row
theorem KRows.snoc {KM : List (List Q3)} {F : Nat → Nat → Rat} {pv : List Nat} {m c K : Nat} {z : List Q3} (h : KRows KM F pv m c K) (hc : c ∉ pv) (hz : Row1 z (kvF F pv c pv.length) m K) : KRows (KM ++ [z]) F pv m (c + 1) K := by
  refine ⟨by rw [kcols_out hc, List.length_append, List.length_append, h.len, List.length_singleton, List.length_singleton], ?_⟩
  rw [kcols_out hc]
  refine snoc_all (P := fun i y => Row1 y (kvF F pv ((kcols pv c ++ [c]).getD i 0) pv.length) m K) (fun i hi => ?_) ?_
  · rw [getD_snoc_lt _ _ (by rw [← h.len]; exact hi)]; exact h.row i hi
  · rw [h.len, getD_snoc_eq]; exact hz

set_option maxRecDepth 20000 in
set_option maxHeartbeats 1000000 in
theorem Kernel_bad (M : List (List Q3)) (A : Option Addr) (cap : Nat) (w : World) (hn : M.length ≤ 1000000) (hx : Mtx w A M) (hs : shapeE M ≠ 0) :
    Calls Try.prog 33 #[.slice A M.length cap] w fun e w' => e = .returned (.tuple #[.slice none 0 0, .int .i64 (shapeE M : Nat)]) ∧ Chg [] w w' := by
  have HS0 := Lib.hid hs
  have hs2 := hs
  obtain ⟨s, HS⟩ := name_it (shapeE M)
  rw [HS.out] at hs
  rw [HS.out]
  have hs1 : ((s : Int) != 0) = true := by simp; omega
  clear hs2
  go_enter Try.func33, Try.ntmps33
  go_wp2_with fail
  refine (Reduce_bad M A cap _ hn hx HS0.out).mono ?_
  rintro e w1 ⟨rfl, c1⟩
  rw [HS.out]
  go_wp2_with fail
  go_ret2
  exact ⟨rfl, c1⟩

set_option maxRecDepth 20000 in
set_option maxHeartbeats 8000000 in
theorem Kernel_ok (M : List (List Q3)) (A : Option Addr) (cap : Nat) (k : Nat) (w : World) (hn : M.length ≤ 1000000) (hx : Mtx w A M) (hs : shapeE M = 0) (hk : 1 ≤ k) (hk2 : k ≤ 3000) (hfit : ∀ i, i < M.length → ∀ j, j < (M.getD 0 []).length → fits ((M.getD i []).getD j q0) k) :
    Calls Try.prog 33 #[.slice A M.length cap] w fun e w' => ∃ v KM, e = .returned (.tuple #[v, .int .i64 0]) ∧ MutV w' [] v KM ∧ KRows KM (ech (matQ M) M.length (M.getD 0 []).length).1 (ech (matQ M) M.length (M.getD 0 []).length).2 (M.getD 0 []).length (M.getD 0 []).length (KF (M.getD 0 []).length k + 8) ∧ Chg [] w w' := by
  have RED := Lib.hid (fun (w : World) (hx : Mtx w A M) => Reduce_ok M A cap k w hn hx hs hk hk2 hfit)
  obtain ⟨s0, s1, s2, s3, s4⟩ := shapeE_ok hs
  have HX := Lib.hid hx
  have hasc := Lib.hid (ech_asc (matQ M) M.length (M.getD 0 []).length)
  have HEC := Lib.hid (ech_holds (matQ M) M.length (M.getD 0 []).length)
  have hKF : KF (M.getD 0 []).length k + 8 ≤ 34359738367 := by
    have h1 := small_bound s4 hk2
    have := KK_small (K := k + (1 + (M.getD 0 []).length * k)) (m := (M.getD 0 []).length) (by omega) s4
    unfold KF; omega
  obtain ⟨K, HK⟩ := name_it (KF (M.getD 0 []).length k)
  obtain ⟨pv, HPV⟩ := name_it (ech (matQ M) M.length (M.getD 0 []).length).2
  obtain ⟨F, HFF⟩ := name_it (ech (matQ M) M.length (M.getD 0 []).length).1
  rw [HPV.out] at hasc HEC
  rw [HFF.out] at HEC
  rw [HK.out] at hKF
  rw [HPV.out, HFF.out, HK.out]
  have OPN := Lib.hid (fun (w' : World) gf gp cp Mf (h : Red w w' M k gf gp cp Mf) => (⟨h.lf, h.lp, h.mtr, by have := h.vals; rwa [HFF.out, HK.out] at this, by have := h.row; rwa [HPV.out] at this⟩ : w.heap.size ≤ gf ∧ w.heap.size ≤ gp ∧ Mut w' [] gf M.length Mf ∧ Vals Mf F M.length (M.getD 0 []).length K ∧ Row 3 .i64 w' gp cp pv))
  rw [HPV.out] at RED
  obtain ⟨m, HM⟩ := name_it (M.getD 0 []).length
  rw [HM.out] at OPN HEC s1 s4
  rw [HM.out]
  obtain ⟨n, HN⟩ := name_it M.length
  rw [HN.out] at OPN HEC RED s0 s3
  rw [HN.out]
  have hple := HEC.out.len
  have HPM : Hid (∀ t, t < pv.length → pv.getD t 0 < m) := Lib.hid HEC.out.lt
  clear hx hs hfit s2 hn
  go_enter Try.func33, Try.ntmps33
  go_wp2_with fail
  refine (RED.out _ HX.out).mono ?_
  rintro e w1 ⟨gf, gp, cp, Mf, rfl, hred, hch⟩
  obtain ⟨hgf, hgp, hM, hV, hrow⟩ := OPN.out _ _ _ _ _ hred
  have HV := Lib.hid hV
  have hlf := hV.len
  clear hred hV
  obtain ⟨r0, HR0⟩ := name_it pv.length
  rw [HR0.out] at hple ⊢
  obtain ⟨B0, cc0, d0, _, _, _, _⟩ := hM.at_ (i := 0) (by omega)
  rw [HV.out.row 0 (by omega)] at d0
  have hn1 : (0 : Int) < (n : Int) := by omega
  have hgfl := hM.lt
  have hgpl := hrow.lt
  have hb0 : MutV (w1.alloc (.cells #[] 23)) [] (.slice (some ⟨w1.heap.size, 0, none⟩) 0 0) [] :=
    ⟨[], rfl, World.ownsRow_lit w1 _ 0 (Nat.zero_le _) (by simp only [maxLen]; omega) rfl, fun i h => absurd h (by simp)⟩
  have hM := (hM.regs (hs := [w1.heap.size]) (by simp)).keep0 ((Chg.refl [] w1).alloc (.cells #[] 23))
  replace hrow := hrow.keep ((Chg.refl [] w1).alloc (.cells #[] 23)) (by simp)
  replace hch := hch.alloc (.cells #[] 23)
  go_wp2_with fail
  obtain ⟨g1, HG1⟩ := name_it w1.heap.size
  rw [HG1.out] at hb0 hM hgfl hgpl ⊢
  go_loopw [7, 8, 24] (fun bv qv iv wr => ∃ (c p : Nat) (KM : List (List Q3)), c ≤ m ∧ iv = .int .i64 c ∧ qv = .int .i64 p ∧ Passed pv p c ∧ MutV wr [] bv KM ∧ KRows KM F pv m c (K + 8) ∧ (∀ x, x ∈ bv.ownBlock.toList → gf < x ∧ gp < x) ∧ Mut wr bv.ownBlock.toList gf n Mf ∧ Row 3 .i64 wr gp cp pv ∧ Chg [] w wr) (fun _ _ iv _ => m - (intOf iv).toNat)
  case atStart => exact ⟨0, 0, [], Nat.zero_le _, rfl, rfl, Passed.start _, hb0, KRows.start _ _ _ _, (by simp [Value.ownBlock]; omega), hM, hrow, hch⟩
  case round =>
    clear hb0 hM hrow hch d0
    obtain ⟨c, p, KM, hc, rfl, rfl, hpas, hbv, hkr, hbk, hM, hrow, hch⟩ := hrel
    have HPS := Lib.hid hpas
    have HKR := Lib.hid hkr
    have HBK := Lib.hid hbk
    have HBV := Lib.hid hbv
    have hpl := hpas.le
    rw [HR0.out] at hpl
    clear hpas hkr hbk hbv
    by_cases hlt : c < m
    · have hasc1 := Lib.hid (fun t u h hu => hasc.out t u h hu)
      by_cases hp : p < r0
      · have hpl2 : p < pv.length := by rw [HR0.out]; exact hp
        have q0c := hrow.cell p hpl2
        have HH := Lib.hid (fun h => HPS.out.hit hasc.out hpl2 h)
        have HM0 := Lib.hid (fun h => HPS.out.miss h hasc.out)
        obtain ⟨pc, HPC⟩ := name_it (pv.getD p 0)
        rw [HPC.out] at q0c HH HM0
        have k1 : (0 : Int) ≤ (p : Int) := by omega
        have k2 : (p : Int) < (r0 : Int) := by omega
        clear hpl2
        by_cases he : pc = c
        · subst he
          have HHT := Lib.hid (HH.out rfl)
          clear HH HM0
          go_wp2_with fail
          go_roundw
          case rel => exact ⟨pc + 1, p + 1, KM, by omega, by go_num, by go_num, HHT.out.2, HBV.out, HKR.out.skip HHT.out.1, HBK.out, hM, hrow, hch⟩
          case measure => simp [intOf]; omega
        · have e1 : ((pc : Int) == (c : Int)) = false := by simp; omega
          have HMS := Lib.hid (HM0.out (fun _ => he))
          clear HH HM0 he
          go_wp2_with fail
          rw [← HR0.out]
          refine (kernelVector_any Mf F pv n m K c gf gp cp _ HV.out (by omega) (by omega) (by omega) hlt (by rw [HR0.out]; exact hple) HPM.out hKF hM.mtx hrow).mono ?_
          rintro e w9 ⟨g9, zs, rfl, hg9, hzs, hz, c1⟩
          rw [HR0.out]
          have HZS := Lib.hid hzs
          have hblt := HBV.out.blt
          have hbv := HBV.out.keep0 c1
          replace hM := hM.keep0 c1
          replace hrow := hrow.keep c1 (by simp)
          replace hch := hch.then c1
          have hM9 := hM.lt
          have hp9 := hrow.lt
          have hKl : KM.length ≤ 1000000 := by have h1 := HKR.out.len; have h2 := kcols_len pv c; omega
          have hzr := hz.rds.keep0 ((Chg.refl [] w9).alloc (.cells #[.slice (some ⟨g9, 0, none⟩) m m] 23))
          have hoff : Off (u7.ownBlock.toList ++ []) (some ⟨g9, 0, none⟩) := by
            intro a ha hm
            cases ha
            rw [List.append_nil] at hm
            have := hblt _ hm
            simp only at this
            omega
          have hcl : (w9.alloc (.cells #[.slice (some ⟨g9, 0, none⟩) m m] 23)).cell? ⟨w9.heap.size, 0, none⟩ = some (.slice (some ⟨g9, 0, none⟩) m m) := by simp
          clear hz hzs c1 q0c
          go_wp2_with (at_builtin; refine wpList_appendM _ rfl (.tmp 41) (.tmp 46) rfl [] _ KM rfl (hbv.keep0 ((Chg.refl [] _).alloc _)) ⟨w9.heap.size, 0, none⟩ 1 (some ⟨g9, 0, none⟩) m m zs rfl hcl HZS.out.len (Nat.le_refl _) (by omega) hzr (fun _ => hoff) hKl ?_)
          intro v1 w4 hv1 cv1 hb1
          have HBK1 : Hid (∀ x, x ∈ v1.ownBlock.toList → gf < x ∧ gp < x) := by
            show ∀ _, _
            intro y hy
            rcases hb1 with h | h
            · rw [h] at hy; exact HBK.out y hy
            · rw [h] at hy; simp at hy; omega
          have c10 : Chg [] w9 (w9.alloc (.cells #[.slice (some ⟨g9, 0, none⟩) m m] 23)) := (Chg.refl _ _).alloc _
          have hM5 := (hM.keep0 c10).regs (hs := u7.ownBlock.toList ++ v1.ownBlock.toList) (fun x hx => by
            rcases List.mem_append.1 hx with h | h
            · exact .inl h
            · rcases hb1 with h2 | h2
              · rw [h2] at h; exact .inl h
              · rw [h2] at h; simp at h; exact .inr (by rw [World.size_alloc]; omega))
          have hM6 := Lib.hid ((hM5.keepg cv1 (fun h => by have := HBK.out _ h; omega) (fun x hx => List.mem_append_left _ hx)).regs (hs := v1.ownBlock.toList) (fun x hx => .inl (List.mem_append_right _ hx)))
          have hrow6 := Lib.hid ((hrow.keep c10 (by simp)).keep cv1 (fun h => by have := HBK.out _ h; omega))
          have hch6 := Lib.hid ((hch.then c10).trans cv1 (fun x hx => .inr (by have := HBK.out x hx; omega)))
          have HK6 := Lib.hid (HKR.out.snoc HMS.out.1 HZS.out)
          clear hM hM5 hrow hch cv1 hb1 c10 hbv hzr hoff hcl hblt
          go_wp2_with fail
          go_roundw
          case rel => exact ⟨c + 1, p, KM ++ [zs], by omega, by go_num, rfl, HMS.out.2, hv1, HK6.out, HBK1.out, hM6.out, hrow6.out, hch6.out⟩
          case measure => simp [intOf]; omega
      · have HMS := Lib.hid (HPS.out.miss (fun h => absurd h (by rw [HR0.out]; exact hp)) hasc.out)
        have e1 : decide ((p : Int) < (r0 : Int)) = false := by simp; omega
        go_wp2_with fail
        rw [← HR0.out]
        refine (kernelVector_any Mf F pv n m K c gf gp cp _ HV.out (by omega) (by omega) (by omega) hlt (by rw [HR0.out]; exact hple) HPM.out hKF hM.mtx hrow).mono ?_
        rintro e w9 ⟨g9, zs, rfl, hg9, hzs, hz, c1⟩
        rw [HR0.out]
        have HZS := Lib.hid hzs
        have hblt := HBV.out.blt
        have hbv := HBV.out.keep0 c1
        replace hM := hM.keep0 c1
        replace hrow := hrow.keep c1 (by simp)
        replace hch := hch.then c1
        have hM9 := hM.lt
        have hp9 := hrow.lt
        have hKl : KM.length ≤ 1000000 := by have h1 := HKR.out.len; have h2 := kcols_len pv c; omega
        have hzr := hz.rds.keep0 ((Chg.refl [] w9).alloc (.cells #[.slice (some ⟨g9, 0, none⟩) m m] 23))
        have hoff : Off (u7.ownBlock.toList ++ []) (some ⟨g9, 0, none⟩) := by
          intro a ha hm
          cases ha
          rw [List.append_nil] at hm
          have := hblt _ hm
          simp only at this
          omega
        have hcl : (w9.alloc (.cells #[.slice (some ⟨g9, 0, none⟩) m m] 23)).cell? ⟨w9.heap.size, 0, none⟩ = some (.slice (some ⟨g9, 0, none⟩) m m) := by simp
        clear hz hzs c1
        go_wp2_with (at_builtin; refine wpList_appendM _ rfl (.tmp 41) (.tmp 46) rfl [] _ KM rfl (hbv.keep0 ((Chg.refl [] _).alloc _)) ⟨w9.heap.size, 0, none⟩ 1 (some ⟨g9, 0, none⟩) m m zs rfl hcl HZS.out.len (Nat.le_refl _) (by omega) hzr (fun _ => hoff) hKl ?_)
        intro v1 w4 hv1 cv1 hb1
        have HBK1 : Hid (∀ x, x ∈ v1.ownBlock.toList → gf < x ∧ gp < x) := by
          show ∀ _, _
          intro y hy
          rcases hb1 with h | h
          · rw [h] at hy; exact HBK.out y hy
          · rw [h] at hy; simp at hy; omega
        have c10 : Chg [] w9 (w9.alloc (.cells #[.slice (some ⟨g9, 0, none⟩) m m] 23)) := (Chg.refl _ _).alloc _
        have hM5 := (hM.keep0 c10).regs (hs := u7.ownBlock.toList ++ v1.ownBlock.toList) (fun x hx => by
          rcases List.mem_append.1 hx with h | h
          · exact .inl h
          · rcases hb1 with h2 | h2
            · rw [h2] at h; exact .inl h
            · rw [h2] at h; simp at h; exact .inr (by rw [World.size_alloc]; omega))
        have hM6 := Lib.hid ((hM5.keepg cv1 (fun h => by have := HBK.out _ h; omega) (fun x hx => List.mem_append_left _ hx)).regs (hs := v1.ownBlock.toList) (fun x hx => .inl (List.mem_append_right _ hx)))
        have hrow6 := Lib.hid ((hrow.keep c10 (by simp)).keep cv1 (fun h => by have := HBK.out _ h; omega))
        have hch6 := Lib.hid ((hch.then c10).trans cv1 (fun x hx => .inr (by have := HBK.out x hx; omega)))
        have HK6 := Lib.hid (HKR.out.snoc HMS.out.1 HZS.out)
        clear hM hM5 hrow hch cv1 hb1 c10 hbv hzr hoff hcl hblt
        go_wp2_with fail
        go_roundw
        case rel => exact ⟨c + 1, p, KM ++ [zs], by omega, by go_num, rfl, HMS.out.2, hv1, HK6.out, HBK1.out, hM6.out, hrow6.out, hch6.out⟩
        case measure => simp [intOf]; omega
    · obtain rfl : c = m := by omega
      go_wp2_with fail
      go_ret2
      exact ⟨u7, KM, rfl, HBV.out, HKR.out, hch⟩

end Go.Proofs.Ytnbajendnknejaa
