/-
  The reference's Solve; law 3: LinearSolve.
-/
import Derived.Test.YtgdidakkfdcajaaLX23
namespace Go.Proofs.Ytgdidakkfdcajaa
open Go.RowKit Nd

set_option maxRecDepth 20000 in
set_option maxHeartbeats 1000000 in
theorem rSolve_bad (M : List (List Q3)) (xs : List Q3) (A B : Option Addr) (cap cb : Nat) (w : World) (hn : M.length ≤ 1000000) (hx : Mtx w A M) (hs : shapeE M ≠ 0) :
    Calls Try.prog 21 #[.slice A M.length cap, .slice B xs.length cb] w fun e w' => e = .returned (.tuple #[.slice none 0 0, .int .i64 (shapeE M : Nat)]) ∧ Chg [] w w' := by
  obtain ⟨s, HS⟩ := name_it (shapeE M)
  rw [HS.out] at hs
  rw [HS.out]
  have hs1 : ((s : Int) != 0) = true := by simp; omega
  go_enter Try.func21, Try.ntmps21
  go_wp2_with fail
  refine (rshape_any M A cap _ hn hx).mono ?_
  rintro e w1 ⟨rfl, c1⟩
  rw [HS.out]
  go_wp2_with fail
  go_ret2
  exact ⟨rfl, c1⟩

set_option maxRecDepth 20000 in
set_option maxHeartbeats 2000000 in
theorem rSolve_four (M : List (List Q3)) (xs : List Q3) (A B : Option Addr) (cap cb : Nat) (w : World) (hx : Mtx w A M) (hs : shapeE M = 0) (hl : M.length ≠ (M.getD 0 []).length ∨ xs.length ≠ M.length) :
    Calls Try.prog 21 #[.slice A M.length cap, .slice B xs.length cb] w fun e w' => e = .returned (.tuple #[.slice none 0 0, .int .i64 4]) ∧ Chg [] w w' := by
  obtain ⟨s0, s1, s2, s3, s4⟩ := shapeE_ok hs
  obtain ⟨ga, oa, rfl, hga⟩ := hx.form (by omega)
  have HX := Lib.hid hx
  have HSH := Lib.hid hs
  obtain ⟨n, HN⟩ := name_it M.length
  obtain ⟨r, HR⟩ := name_it (M.getD 0 [])
  obtain ⟨m, HM⟩ := name_it r.length
  obtain ⟨l, HL⟩ := name_it xs.length
  rw [HR.out, HN.out, HM.out, HL.out] at hl
  rw [HN.out] at s0 s3
  rw [HR.out, HM.out] at s4
  rw [HN.out, HL.out]
  clear hx hs s2 s1
  have hn1 : (0 : Int) < (n : Int) := by omega
  by_cases hnm : n = m
  · have hln := hl.resolve_left (fun h => h hnm)
    obtain rfl := hnm
    have d1 : ((n : Int) != (n : Int)) = false := by simp
    have d2 : ((l : Int) != (n : Int)) = true := by simp; omega
    clear hl hln
    go_enter Try.func21, Try.ntmps21
    go_wp2_with fail
    rw [← HN.out]
    refine (rshape_any M _ cap _ (by rw [HN.out]; omega) HX.out).mono ?_
    rintro e w1 ⟨rfl, c1⟩
    rw [HSH.out, HN.out]
    obtain ⟨Br, cr, hc, _, _, _⟩ := (HX.out.keep0 c1).row (i := 0) (by rw [HN.out]; omega)
    rw [HR.out, HM.out] at hc
    have hcc := hc.c
    try rw [Nat.add_zero] at hcc
    go_wp2_with fail
    go_ret2
    exact ⟨rfl, c1⟩
  · have d1 : ((n : Int) != (m : Int)) = true := by simp; omega
    clear hl
    go_enter Try.func21, Try.ntmps21
    go_wp2_with fail
    rw [← HN.out]
    refine (rshape_any M _ cap _ (by rw [HN.out]; omega) HX.out).mono ?_
    rintro e w1 ⟨rfl, c1⟩
    rw [HSH.out, HN.out]
    obtain ⟨Br, cr, hc, _, _, _⟩ := (HX.out.keep0 c1).row (i := 0) (by rw [HN.out]; omega)
    rw [HR.out, HM.out] at hc
    have hcc := hc.c
    try rw [Nat.add_zero] at hcc
    go_wp2_with fail
    go_ret2
    exact ⟨rfl, c1⟩

/-- What the reference's Solve answers. -/
def SolvR (F : Nat → Nat → Rat) (n K : Nat) (e : Ending) (w' : World) : Prop :=
  if (ech F n n).2.length = n then ∃ v zs, e = .returned (.tuple #[v, .int .i64 0]) ∧ Own3 w' v zs ∧ Row1 zs (fun r => (ech F n n).1 r n) n K
  else e = .returned (.tuple #[.slice none 0 0, .int .i64 5])
set_option maxRecDepth 20000 in
set_option maxHeartbeats 4000000 in
theorem rSolve_ok (M : List (List Q3)) (xs : List Q3) (A B : Option Addr) (cap cb : Nat) (k : Nat) (w : World) (hx : Mtx w A M) (hb : Rds w B xs) (hs : squareE M = 0) (hxl : xs.length = M.length) (hk : 1 ≤ k) (hkb : KR k (M.length + 1) ≤ 4294967296) (hk2 : k ≤ 3000) (hfit : ∀ i, i < M.length → ∀ j, j < (M.getD 0 []).length → fits ((M.getD i []).getD j q0) k) (hfx : ∀ j, j < M.length → fits (xs.getD j q0) k) :
    Calls Try.prog 21 #[.slice A M.length cap, .slice B xs.length cb] w fun e w' => SolvR (augQ M xs M.length) M.length (KR k (M.length + 1)) e w' ∧ Chg [] w w' := by
  have SQ := squareE_ok hs
  obtain ⟨s0, s1, s2, s3, s4⟩ := shapeE_ok SQ.1
  have HSH := Lib.hid SQ.1
  have hmm := SQ.2
  obtain ⟨ga, oa, rfl, hga⟩ := hx.form (by omega)
  have HX := Lib.hid hx
  have HBX := Lib.hid hb
  have hch : Chg [] w w := Chg.refl _ _
  rw [← hmm] at s2 s1 hfit
  have HGQ : Hid (augQ M xs M.length = fun i j => if j < M.length then matQ M i j else (fun j => ratOf (xs.getD j q0)) i) := Lib.hid rfl
  obtain ⟨G, HG⟩ := name_it (augQ M xs M.length)
  rw [HG.out] at HGQ
  rw [HG.out]
  obtain ⟨n, HN⟩ := name_it M.length
  rw [HN.out] at s0 s3 hxl s2 s1 hfit hfx hkb HGQ
  have HROW := Lib.hid s2
  have HFIT := Lib.hid hfit
  have HFX := Lib.hid hfx
  have HXL := Lib.hid hxl
  have HKB := Lib.hid hkb
  rw [HN.out, hxl]
  have hr0 : Hid ((M.getD 0 []).length = n) := Lib.hid (by rw [← HN.out]; exact hmm.symm)
  have hn1 : (0 : Int) < (n : Int) := by omega
  have d1 : ((n : Int) != (n : Int)) = false := by simp
  clear hx hb hs s2 hfit hfx hxl hkb SQ hmm s1
  have POST : Hid (∀ (w1 : World) e, SolR G n (KR k (n + 1)) e w1 → (∃ v zs, e = .returned (.tuple #[v, .bool true]) ∧ (ech G n n).2.length = n ∧ Own3 w1 v zs ∧ Row1 zs (fun r => (ech G n n).1 r n) n (KR k (n + 1))) ∨ (e = .returned (.tuple #[.slice none 0 0, .bool false]) ∧ (ech G n n).2.length ≠ n)) := Lib.hid fun w1 e h => by
    unfold SolR at h
    by_cases c : (ech G n n).2.length = n
    · rw [if_pos c] at h
      obtain ⟨v, zs, h1, h2, h3⟩ := h
      exact .inl ⟨v, zs, h1, c, h2, h3⟩
    · rw [if_neg c] at h; exact .inr ⟨h, c⟩
  go_enter Try.func21, Try.ntmps21
  go_wp2_with fail
  rw [← HN.out]
  refine (rshape_any M _ cap _ (by rw [HN.out]; omega) HX.out).mono ?_
  rintro e w1 ⟨rfl, c1⟩
  rw [HSH.out, HN.out]
  replace hch := hch.then c1
  clear c1
  obtain ⟨Br, cr, hc, _, _, _⟩ := (HX.out.keep0 hch).row (i := 0) (by rw [HN.out]; omega)
  rw [hr0.out] at hc
  have hcc := hc.c
  try rw [Nat.add_zero] at hcc
  go_wp2_with fail
  clear hcc
  clear hc
  refine (rfixedRows_any M _ n n cap k _ HN.out HROW.out (by omega) (by omega) (by omega) hk (by omega) HFIT.out (HX.out.keep0 hch)).mono ?_
  rintro e w2 ⟨v2, M2, rfl, hM2, hV2, _, c1⟩
  replace hch := hch.then c1
  obtain ⟨A2, cp2, rfl, _, _, hm2⟩ := hM2.mtx
  rw [hV2.len]
  have HV2 := Lib.hid hV2
  have HM2 := Lib.hid hm2
  clear c1 hV2 hM2 hm2
  go_wp2_with fail
  refine (rFixed_any xs B n cb k _ HXL.out (by omega) hk (by omega) HFX.out (HBX.out.keep0 hch)).mono ?_
  rintro e w3 ⟨v3, ys, rfl, hO3, _, hR3, c1⟩
  replace hch := hch.then c1
  obtain ⟨B3, cb3, rfl, _, _, hr3⟩ := hO3.rds
  rw [hR3.len]
  have HR3 := Lib.hid hR3
  have HRD3 := Lib.hid hr3
  have HM3 := Lib.hid (HM2.out.keep0 c1)
  clear c1 hR3 hO3 hr3 HM2
  go_wp2_with fail
  refine (rSolution_any M2 ys (matQ M) (fun j => ratOf (xs.getD j q0)) G n k A2 B3 cp2 cb3 _ HGQ.out HV2.out HR3.out (by omega) (by omega) hk HKB.out HM3.out HRD3.out).mono ?_
  rintro e w4 ⟨hsol, c1⟩
  replace hch := hch.then c1
  clear c1
  rcases POST.out _ _ hsol with ⟨v, zs, rfl, hl, hO, hR⟩ | ⟨rfl, hl⟩
  · have HL := Lib.hid hl
    have HRR := Lib.hid hR
    clear hsol hl hR
    go_wp2_with fail
    go_ret2
    exact ⟨by unfold SolvR; rw [if_pos HL.out]; exact ⟨v, zs, rfl, hO, HRR.out⟩, hch⟩
  · have HL := Lib.hid hl
    clear hsol hl
    go_wp2_with fail
    go_ret2
    exact ⟨by unfold SolvR; rw [if_neg HL.out]; rfl, hch⟩

/-- Solve and the reference's Solve answer the same. -/
theorem Solve_pair (M : List (List Q3)) (xs : List Q3) (A B : Option Addr) (cap cb : Nat) (hn : M.length ≤ 5) (hfit : shapeE M = 0 → ∀ i, i < M.length → ∀ j, j < (M.getD 0 []).length → fits ((M.getD i []).getD j q0) 24) (hfx : ∀ j, j < xs.length → fits (xs.getD j q0) 24) :
    ∃ (s : Nat) (zs : List Q3), zs.length ≤ 16 ∧
      (∀ w, Mtx w A M → Rds w B xs → Calls Try.prog 20 #[.slice A M.length cap, .slice B xs.length cb] w fun e w' => ∃ B2 c2, e = .returned (.tuple #[.slice B2 zs.length c2, .int .i64 (s : Nat)]) ∧ Rds w' B2 zs ∧ Chg [] w w') ∧
      (∀ w, Mtx w A M → Rds w B xs → Calls Try.prog 21 #[.slice A M.length cap, .slice B xs.length cb] w fun e w' => ∃ B2 c2, e = .returned (.tuple #[.slice B2 zs.length c2, .int .i64 (s : Nat)]) ∧ Rds w' B2 zs ∧ Chg [] w w') := by
  by_cases hs : shapeE M = 0
  · by_cases hq : M.length = (M.getD 0 []).length
    · have hsq := squareE_zero hs hq
      by_cases hl : xs.length = M.length
      · have hfx' : ∀ j, j < M.length → fits (xs.getD j q0) 24 := fun j hj => hfx j (by omega)
        by_cases hlen : (ech (augQ M xs M.length) M.length M.length).2.length = M.length
        · refine ⟨0, canL (fun r => (ech (augQ M xs M.length) M.length M.length).1 r M.length) M.length, by rw [canL_length]; omega, fun w hM hx => ?_, fun w hM hx => ?_⟩
          · refine (Solve_ok M xs A B cap cb 24 w hM hx hsq hl (by omega) (by omega) (hfit hs) hfx' hlen).mono ?_
            rintro e w1 ⟨g, zs, rfl, _, hz, hN, c1⟩
            have hr := hN.rds
            rw [hz.can] at hr
            exact ⟨_, M.length, by rw [canL_length]; rfl, hr, c1⟩
          · refine (rSolve_ok M xs A B cap cb 24 w hM hx hsq hl (by omega) (KR_small (by omega)) (by omega) (hfit hs) hfx').mono ?_
            rintro e w1 ⟨h, c1⟩
            unfold SolvR at h
            rw [if_pos hlen] at h
            obtain ⟨v, zs, rfl, hO, hz⟩ := h
            obtain ⟨A2, c2, rfl, _, _, hr⟩ := hO.rds
            rw [hz.can] at hr ⊢
            exact ⟨A2, c2, rfl, hr, c1⟩
        · have hle := (ech_holds (augQ M xs M.length) M.length M.length).len
          refine ⟨5, [], by simp, fun w hM hx => ?_, fun w hM hx => ?_⟩
          · refine (Solve_sing M xs A B cap cb 24 w hM hx hsq hl (by omega) (by omega) (hfit hs) hfx' (by omega)).mono ?_
            rintro e w1 ⟨rfl, c1⟩
            exact ⟨none, 0, rfl, Rds.nil _ _, c1⟩
          · refine (rSolve_ok M xs A B cap cb 24 w hM hx hsq hl (by omega) (KR_small (by omega)) (by omega) (hfit hs) hfx').mono ?_
            rintro e w1 ⟨h, c1⟩
            unfold SolvR at h
            rw [if_neg hlen] at h
            subst h
            exact ⟨none, 0, rfl, Rds.nil _ _, c1⟩
      · refine ⟨4, [], by simp, fun w hM hx => ?_, fun w hM hx => ?_⟩
        · refine (Solve_len M xs A B cap cb w (by omega) hM hsq hl).mono ?_
          rintro e w1 ⟨rfl, c1⟩
          exact ⟨none, 0, rfl, Rds.nil _ _, c1⟩
        · refine (rSolve_four M xs A B cap cb w hM hs (.inr hl)).mono ?_
          rintro e w1 ⟨rfl, c1⟩
          exact ⟨none, 0, rfl, Rds.nil _ _, c1⟩
    · refine ⟨4, [], by simp, fun w hM hx => ?_, fun w hM hx => ?_⟩
      · refine (Solve_bad M xs A B cap cb w (by omega) hM (by rw [squareE_four hs hq]; omega)).mono ?_
        rintro e w1 ⟨rfl, c1⟩
        exact ⟨none, 0, by rw [squareE_four hs hq]; rfl, Rds.nil _ _, c1⟩
      · refine (rSolve_four M xs A B cap cb w hM hs (.inl hq)).mono ?_
        rintro e w1 ⟨rfl, c1⟩
        exact ⟨none, 0, rfl, Rds.nil _ _, c1⟩
  · refine ⟨shapeE M, [], by simp, fun w hM hx => ?_, fun w hM hx => ?_⟩
    · refine (Solve_bad M xs A B cap cb w (by omega) hM (by rw [squareE_bad hs]; exact hs)).mono ?_
      rintro e w1 ⟨rfl, c1⟩
      exact ⟨none, 0, by rw [squareE_bad hs]; rfl, Rds.nil _ _, c1⟩
    · refine (rSolve_bad M xs A B cap cb w (by omega) hM hs).mono ?_
      rintro e w1 ⟨rfl, c1⟩
      exact ⟨none, 0, rfl, Rds.nil _ _, c1⟩

set_option maxRecDepth 20000 in
set_option maxHeartbeats 4000000 in
theorem lsolve_any (M : List (List Q3)) (xs : List Q3) (A B : Option Addr) (cap cb : Nat) (w : World) (hM : Mtx w A M) (hx : Rds w B xs) :
    Calls Try.prog 3 #[.slice A M.length cap, .slice B xs.length cb] w fun e w' => e = .returned (.bool true) ∧ Chg [] w w' := by
  have hch : Chg [] w w := Chg.refl _ _
  cases hf : (decide (M.length ≤ 5) && fewM 5 M)
  · have HF := Lib.hid hf
    clear hf
    go_enter Try.func3, Try.ntmps3
    go_wp2_with fail
    refine (fewRows_any M A cap 5 _ (by omega) hM).mono ?_
    rintro e w1 ⟨rfl, c1⟩
    rw [HF.out]
    replace hch := hch.then c1
    clear c1
    go_wp2_with fail
    refine (awake3_any _).mono ?_
    rintro e w2 ⟨rfl, c1⟩
    replace hch := hch.then c1
    clear c1
    go_wp2_with fail
    go_ret
    exact ⟨rfl, hch⟩
  · have HF := Lib.hid hf
    have hf2 : M.length ≤ 5 ∧ fewM 5 M = true := by simpa using hf
    have hm5 := hf2.1
    have HFM := Lib.hid hf2.2
    clear hf hf2
    cases hg : (decide (xs.length ≤ 6) && fewQ xs)
    · have HG := Lib.hid hg
      clear hg
      go_enter Try.func3, Try.ntmps3
      go_wp2_with fail
      refine (fewRows_any M A cap 5 _ (by omega) hM).mono ?_
      rintro e w1 ⟨rfl, c1⟩
      rw [HF.out]
      replace hx := hx.keep0 c1
      replace hch := hch.then c1
      clear c1
      go_wp2_with fail
      refine (fewRds_any xs B cb 6 _ (by omega) hx).mono ?_
      rintro e w2 ⟨rfl, c1⟩
      rw [HG.out]
      replace hx := hx.keep0 c1
      replace hch := hch.then c1
      clear c1
      go_wp2_with fail
      refine (awake3_any _).mono ?_
      rintro e w3 ⟨rfl, c1⟩
      replace hch := hch.then c1
      clear c1
      go_wp2_with fail
      go_ret
      exact ⟨rfl, hch⟩
    · have HG := Lib.hid hg
      have hg2 : xs.length ≤ 6 ∧ fewQ xs = true := by simpa using hg
      have hx6 := hg2.1
      have FX := Lib.hid (fewQ_fits hg2.2)
      clear hg hg2
      obtain ⟨s, zs, hzl, AP, RP⟩ := Solve_pair M xs A B cap cb hm5 (fun hs => fewM_fits HFM.out hs) (fun j hj => FX.out _ (mem_getQ hj))
      have HAP := Lib.hid AP
      have HRP := Lib.hid RP
      obtain ⟨n, HN⟩ := name_it zs.length
      rw [HN.out] at hzl HAP HRP
      clear AP RP
      go_enter Try.func3, Try.ntmps3
      go_wp2_with fail
      refine (fewRows_any M A cap 5 _ (by omega) hM).mono ?_
      rintro e w1 ⟨rfl, c1⟩
      rw [HF.out]
      replace hM := hM.keep0 c1
      replace hx := hx.keep0 c1
      replace hch := hch.then c1
      clear c1
      go_wp2_with fail
      refine (fewRds_any xs B cb 6 _ (by omega) hx).mono ?_
      rintro e w2 ⟨rfl, c1⟩
      rw [HG.out]
      replace hM := hM.keep0 c1
      replace hx := hx.keep0 c1
      replace hch := hch.then c1
      clear c1
      go_wp2_with fail
      refine (HAP.out _ hM hx).mono ?_
      rintro e w3 ⟨B2, c2, rfl, hr2, c1⟩
      replace hM := hM.keep0 c1
      replace hx := hx.keep0 c1
      replace hch := hch.then c1
      clear c1
      go_wp2_with fail
      refine (HRP.out _ hM hx).mono ?_
      rintro e w4 ⟨B3, c3, rfl, hr3, c1⟩
      replace hM := hM.keep0 c1
      replace hx := hx.keep0 c1
      replace hr2 := hr2.keep0 c1
      replace hch := hch.then c1
      clear c1
      go_wp2_with fail
      refine (awake3_any _).mono ?_
      rintro e w5 ⟨rfl, c1⟩
      replace hr2 := hr2.keep0 c1
      replace hr3 := hr3.keep0 c1
      replace hch := hch.then c1
      clear c1
      go_wp2_with fail
      refine (sameRats_n zs n B2 B3 c2 c3 _ HN.out (by omega) hr2 hr3).mono ?_
      rintro e w6 ⟨rfl, c1⟩
      replace hch := hch.then c1
      clear c1
      go_wp2_with fail
      go_ret
      exact ⟨ret_eq (by simp), hch⟩

end Go.Proofs.Ytgdidakkfdcajaa
