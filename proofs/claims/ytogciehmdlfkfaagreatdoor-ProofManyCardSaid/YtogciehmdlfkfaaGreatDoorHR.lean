/-
  Several parts put together: DR1, DR2.
-/
import Derived.Test.YtogciehmdlfkfaaGreatDoorHD
import Derived.Test.YtogciehmdlfkfaaGreatDoorHX
/- Part DR1. -/

namespace Go.Proofs.YtogciehmdlfkfaaGreatDoor
open Go.RowKit Nd

set_option maxRecDepth 20000 in
set_option maxHeartbeats 1000000 in
theorem rletter_any (c : Nat) (w : World) : Calls Tryz.prog 27 #[.int .u8 (c : Int)] w fun e w' => e = .returned (.bool (ltC c)) ∧ w' = w := by
  rcases (by omega : (c < 65) ∨ (65 ≤ c ∧ c ≤ 90) ∨ (91 ≤ c ∧ c ≤ 96) ∨ (97 ≤ c ∧ c ≤ 122) ∨ (123 ≤ c)) with h | h | h | h | h
  · have d1 : decide ((97 : Int) ≤ (c : Int)) = false := by simp; omega
    have d2 : decide ((c : Int) ≤ 122) = true := by simp; omega
    have d3 : decide ((65 : Int) ≤ (c : Int)) = false := by simp; omega
    have d4 : decide ((c : Int) ≤ 90) = true := by simp; omega
    have hr : Hid (ltC c = false) := by show _ = _; unfold ltC; simp; omega
    clear h
    rw [hr.out]
    go_enter Tryz.func27, Tryz.ntmps27
    go_wp2
    go_ret
    exact ⟨rfl, rfl⟩
  · have d1 : decide ((97 : Int) ≤ (c : Int)) = false := by simp; omega
    have d2 : decide ((c : Int) ≤ 122) = true := by simp; omega
    have d3 : decide ((65 : Int) ≤ (c : Int)) = true := by simp; omega
    have d4 : decide ((c : Int) ≤ 90) = true := by simp; omega
    have hr : Hid (ltC c = true) := by show _ = _; unfold ltC; simp; omega
    clear h
    rw [hr.out]
    go_enter Tryz.func27, Tryz.ntmps27
    go_wp2
    go_ret
    exact ⟨rfl, rfl⟩
  · have d1 : decide ((97 : Int) ≤ (c : Int)) = false := by simp; omega
    have d2 : decide ((c : Int) ≤ 122) = true := by simp; omega
    have d3 : decide ((65 : Int) ≤ (c : Int)) = true := by simp; omega
    have d4 : decide ((c : Int) ≤ 90) = false := by simp; omega
    have hr : Hid (ltC c = false) := by show _ = _; unfold ltC; simp; omega
    clear h
    rw [hr.out]
    go_enter Tryz.func27, Tryz.ntmps27
    go_wp2
    go_ret
    exact ⟨rfl, rfl⟩
  · have d1 : decide ((97 : Int) ≤ (c : Int)) = true := by simp; omega
    have d2 : decide ((c : Int) ≤ 122) = true := by simp; omega
    have d3 : decide ((65 : Int) ≤ (c : Int)) = true := by simp; omega
    have d4 : decide ((c : Int) ≤ 90) = false := by simp; omega
    have hr : Hid (ltC c = true) := by show _ = _; unfold ltC; simp; omega
    clear h
    rw [hr.out]
    go_enter Tryz.func27, Tryz.ntmps27
    go_wp2
    go_ret
    exact ⟨rfl, rfl⟩
  · have d1 : decide ((97 : Int) ≤ (c : Int)) = true := by simp; omega
    have d2 : decide ((c : Int) ≤ 122) = false := by simp; omega
    have d3 : decide ((65 : Int) ≤ (c : Int)) = true := by simp; omega
    have d4 : decide ((c : Int) ≤ 90) = false := by simp; omega
    have hr : Hid (ltC c = false) := by show _ = _; unfold ltC; simp; omega
    clear h
    rw [hr.out]
    go_enter Tryz.func27, Tryz.ntmps27
    go_wp2
    go_ret
    exact ⟨rfl, rfl⟩
set_option maxRecDepth 20000 in
theorem rdigit_any (c : Nat) (w : World) : Calls Tryz.prog 53 #[.int .u8 (c : Int)] w fun e w' => e = .returned (.bool (dgC c)) ∧ w' = w := by
  rcases (by omega : (c < 48) ∨ (48 ≤ c ∧ c ≤ 57) ∨ (58 ≤ c)) with h | h | h
  · have d1 : decide ((48 : Int) ≤ (c : Int)) = false := by simp; omega
    have d2 : decide ((c : Int) ≤ 57) = true := by simp; omega
    have hr : Hid (dgC c = false) := by show _ = _; unfold dgC; simp; omega
    clear h
    rw [hr.out]
    go_enter Tryz.func53, Tryz.ntmps53
    go_wp2
    go_ret
    exact ⟨rfl, rfl⟩
  · have d1 : decide ((48 : Int) ≤ (c : Int)) = true := by simp; omega
    have d2 : decide ((c : Int) ≤ 57) = true := by simp; omega
    have hr : Hid (dgC c = true) := by show _ = _; unfold dgC; simp; omega
    clear h
    rw [hr.out]
    go_enter Tryz.func53, Tryz.ntmps53
    go_wp2
    go_ret
    exact ⟨rfl, rfl⟩
  · have d1 : decide ((48 : Int) ≤ (c : Int)) = true := by simp; omega
    have d2 : decide ((c : Int) ≤ 57) = false := by simp; omega
    have hr : Hid (dgC c = false) := by show _ = _; unfold dgC; simp; omega
    clear h
    rw [hr.out]
    go_enter Tryz.func53, Tryz.ntmps53
    go_wp2
    go_ret
    exact ⟨rfl, rfl⟩
set_option maxRecDepth 20000 in
set_option maxHeartbeats 1000000 in
theorem rwithin_any (c : Nat) (w : World) : Calls Tryz.prog 28 #[.int .u8 (c : Int)] w fun e w' => e = .returned (.bool (nmC c)) ∧ w' = w := by
  obtain ⟨R, HR⟩ := name_it (nmC c)
  have HRR : Hid (R = nmC c) := HR.out.symm
  rw [HR.out]
  unfold nmC at HRR
  obtain ⟨a, HA⟩ := name_it (ltC c)
  obtain ⟨b, HB⟩ := name_it (dgC c)
  obtain ⟨x, HX⟩ := name_it (decide (c = 45))
  obtain ⟨y, HY⟩ := name_it (decide (c = 95))
  have q1 : ((c : Int) == 45) = x := by rw [← HX.out, Bool.eq_iff_iff]; simp; omega
  have q2 : ((c : Int) == 95) = y := by rw [← HY.out, Bool.eq_iff_iff]; simp; omega
  rw [HA.out, HB.out, HX.out, HY.out] at HRR
  cases a <;> cases b <;> cases x
  all_goals
    go_enter Tryz.func28, Tryz.ntmps28
    go_wp2_with (first
      | (go_at_call 27; refine (rletter_any c _).mono ?_; rintro e w3 ⟨rfl, rfl⟩; rw [HA.out])
      | (go_at_call 53; refine (rdigit_any c _).mono ?_; rintro e w3 ⟨rfl, rfl⟩; rw [HB.out])
      | fail)
    go_ret
    exact ⟨ret_eq (by rw [HRR.out]; rfl), rfl⟩
set_option maxRecDepth 20000 in
set_option maxHeartbeats 1000000 in
theorem rIsName_any (s : ByteArray) (w : World) (hs : s.size ≤ 1000000000) :
    Calls Tryz.prog 13 #[.string s] w fun e w' => e = .returned (.bool (nameB s)) ∧ w' = w := by
  obtain ⟨R, HR⟩ := name_it (nameB s)
  have HRR : Hid (R = nameB s) := HR.out.symm
  rw [HR.out]
  unfold nameB at HRR
  by_cases h0 : s.size < 1
  · have d0 : decide ((s.size : Int) < 1) = true := by simp; omega
    have hR : Hid (R = false) := by show _ = _; rw [HRR.out, decide_eq_false (by omega)]; rfl
    clear h0
    go_enter Tryz.func13, Tryz.ntmps13
    go_wp2
    go_ret
    exact ⟨ret_eq (by rw [hR.out]; rfl), rfl⟩
  · have d0 : decide ((s.size : Int) < 1) = false := by simp; omega
    by_cases h1 : 32 < s.size
    · have d1 : decide ((32 : Int) < (s.size : Int)) = true := by simp; omega
      have hR : Hid (R = false) := by show _ = _; rw [HRR.out, decide_eq_false (show ¬ s.size ≤ 32 by omega)]; simp
      clear h0 h1
      go_enter Tryz.func13, Tryz.ntmps13
      go_wp2
      go_ret
      exact ⟨ret_eq (by rw [hR.out]; rfl), rfl⟩
    · have d1 : decide ((32 : Int) < (s.size : Int)) = false := by simp; omega
      have HRS : Hid (R = (ltC (byt s 0) && decide (∀ j, j < s.size → nmC (byt s j) = true))) := by show _ = _; rw [HRR.out, decide_eq_true (show 1 ≤ s.size by omega), decide_eq_true (show s.size ≤ 32 by omega)]; simp
      obtain ⟨c, HC⟩ := name_it (byt s 0)
      have hix : ∀ W, (Instr.index 9 (.string s) (.int .i64 0)).run Tryz.prog W = .ok (.int .u8 (c : Int)) W := fun W => idx_str s 0 c (by omega) HC.out W
      rw [HC.out] at HRS
      obtain ⟨a, HA⟩ := name_it (ltC c)
      rw [HA.out] at HRS
      cases a with
      | false =>
        have hR : Hid (R = false) := by show _ = _; rw [HRS.out]; rfl
        clear h0 h1
        go_enter Tryz.func13, Tryz.ntmps13
        go_wp2_with (go_at_call 27; refine (rletter_any c _).mono ?_; rintro e w3 ⟨rfl, rfl⟩; rw [HA.out])
        go_ret
        exact ⟨ret_eq (by rw [hR.out]; rfl), rfl⟩
      | true =>
        have hz : s.size ≤ 32 := by omega
        clear h0 h1
        go_enter Tryz.func13, Tryz.ntmps13
        go_wp2_with (go_at_call 27; refine (rletter_any c _).mono ?_; rintro e w3 ⟨rfl, rfl⟩; rw [HA.out])
        clear hix d0 d1
        go_loopw [3] (fun iv wr => ∃ i : Nat, i ≤ s.size ∧ iv = .int .i64 i ∧ (∀ j, j < i → nmC (byt s j) = true) ∧ wr = w3) (fun iv _ => s.size - (intOf iv).toNat)
        case atStart => exact ⟨0, by omega, rfl, fun j hj => absurd hj (by omega), by first | rfl | trivial⟩
        case round =>
          obtain ⟨i, hi, rfl, hall, rfl⟩ := hrel
          have HL := Lib.hid hall
          clear hall
          by_cases hlt : i < s.size
          · obtain ⟨d, HD⟩ := name_it (byt s i)
            have hix := idx_str s i d hlt HD.out
            obtain ⟨b, HB⟩ := name_it (nmC d)
            cases b with
            | false =>
              have hR : Hid (R = false) := by
                show _ = _
                rw [HRS.out, Bool.true_and]
                refine decide_eq_false fun h => ?_
                have := h i hlt
                rw [HD.out, HB.out] at this; cases this
              go_wp2_with (go_at_call 28; refine (rwithin_any d _).mono ?_; rintro e w4 ⟨rfl, rfl⟩; rw [HB.out])
              go_ret
              exact ⟨ret_eq (by rw [hR.out]; rfl), by first | rfl | trivial⟩
            | true =>
              have HL2 : Hid (∀ j, j < i + 1 → nmC (byt s j) = true) := by
                show ∀ j, _
                intro j hj
                by_cases hji : j = i
                · rw [hji, HD.out]; exact HB.out
                · exact HL.out j (by omega)
              go_wp2_with (go_at_call 28; refine (rwithin_any d _).mono ?_; rintro e w4 ⟨rfl, rfl⟩; rw [HB.out])
              go_roundw
              · exact ⟨i + 1, by omega, by go_num, HL2.out, trivial⟩
              · simp [intOf]; omega
          · have hR : Hid (R = true) := by
              show _ = _
              rw [HRS.out, Bool.true_and]
              exact decide_eq_true fun j hj => HL.out j (by omega)
            have dl : decide ((i : Int) < (s.size : Int)) = false := by simp; omega
            go_wp2
            go_ret
            exact ⟨ret_eq (by rw [hR.out]; rfl), by first | rfl | trivial⟩
end Go.Proofs.YtogciehmdlfkfaaGreatDoor

/- Part DR2. -/

namespace Go.Proofs.YtogciehmdlfkfaaGreatDoor
open Go.RowKit Nd

theorem rsignP (x : Q3) (w : World) (hx : fits x 4000) :
    Calls Tryz.prog 35 #[.agg #[.bool x.neg, .string x.num, .string x.den]] w fun e w' => e = .returned (.int .i64 (sg (ratOf x))) ∧ Chg [] w w' :=
  rSignN x (ratOf x) 4000 w (Num.of_fits hx (by omega)) (by omega)
theorem isd_up (d : Int) : isd d = upB d 1048576 := by unfold isd upB; rw [Bool.decide_and]
set_option maxRecDepth 20000 in
set_option maxHeartbeats 8000000 in
theorem rCheck_any (p : Pf) (w : World) (hf : FitP p) (z1 : small p.id) (z2 : small p.cd) :
    Calls Tryz.prog 16 #[.agg #[.string p.id, .int .i64 p.es, .int .i64 p.cr, .string p.cd, .bool p.am.neg, .string p.am.num, .string p.am.den, .int .i64 p.inc, .int .i64 p.rk, .bool p.rt.neg, .string p.rt.num, .string p.rt.den, .int .i64 p.rf, .int .i64 p.sec]] w fun e w' => e = .returned (.int .i64 (chkE p)) ∧ Chg [] w w' := by
  have b := BlkPf.alloc w (.string p.id) (.int .i64 p.es) (.int .i64 p.cr) (.string p.cd) (.bool p.am.neg) (.string p.am.num) (.string p.am.den) (.int .i64 p.inc) (.int .i64 p.rk) (.bool p.rt.neg) (.string p.rt.num) (.string p.rt.den) (.int .i64 p.rf) (.int .i64 p.sec) 27
  have hch : Chg [] w (w.alloc (.cells #[.string p.id, .int .i64 p.es, .int .i64 p.cr, .string p.cd, .bool p.am.neg, .string p.am.num, .string p.am.den, .int .i64 p.inc, .int .i64 p.rk, .bool p.rt.neg, .string p.rt.num, .string p.rt.den, .int .i64 p.rf, .int .i64 p.sec] 27)) := (Chg.refl _ _).alloc _
  have FA := Lib.hid hf.a
  have FR := Lib.hid hf.r
  have Z1 := Lib.hid z1
  have Z2 := Lib.hid z2
  clear hf z1 z2
  obtain ⟨E, HE⟩ := name_it (chkE p)
  have HEE : Hid (E = chkE p) := HE.out.symm
  rw [HE.out]
  unfold chkE optE at HEE
  obtain ⟨a1, H1⟩ := name_it (nameB p.id)
  obtain ⟨a2, H2⟩ := name_it (upB p.es 7)
  obtain ⟨a3, H3⟩ := name_it (upB p.cr 31)
  obtain ⟨a4, H4⟩ := name_it (codeB p.cd)
  obtain ⟨S, HS⟩ := name_it (sg (ratOf p.am))
  obtain ⟨T, HT⟩ := name_it (sg (ratOf p.rt))
  obtain ⟨a5, H5⟩ := name_it (isd p.inc)
  obtain ⟨a7, H7⟩ := name_it (upB p.rk 7)
  obtain ⟨a6, H6⟩ := name_it (isd p.rf)
  obtain ⟨a8, H8⟩ := name_it (upB p.sec 7)
  rw [H1.out, H2.out, H3.out, H4.out, HS.out, ← isd_up, ← isd_up, H5.out, H7.out, HT.out, H6.out, H8.out] at HEE
  clear HE
  cases a1 with
  | false =>
    have hR : Hid (E = 11) := by show _ = _; rw [HEE.out]; simp
    go_enter Tryz.func16, Tryz.ntmps16
    have k0 := b.c0
    have k1 := b.c1
    have k2 := b.c2
    have k3 := b.c3
    have k4 := b.c4
    have k5 := b.c5
    have k6 := b.c6
    have k7 := b.c7
    have k8 := b.c8
    have k9 := b.c9
    have k10 := b.c10
    have k11 := b.c11
    have k12 := b.c12
    have k13 := b.c13
    have kl := b.lt
    go_wp2_with (first
      | (go_at_call 13; refine (rIsName_any p.id _ (by have := Z1.out; unfold small at this; omega)).mono ?_; rintro e w3 ⟨rfl, rfl⟩; rw [H1.out])
      | fail)
    go_ret
    exact ⟨ret_eq (by rw [hR.out]; rfl), hch⟩
  | true =>
    by_cases x1 : p.es < 0
    · have d1 : decide (p.es < 0) = true := decide_eq_true x1
      obtain rfl : a2 = false := by rw [← H2.out]; unfold upB; simp; omega
      clear x1
      have hR : Hid (E = 1) := by show _ = _; rw [HEE.out]; simp
      go_enter Tryz.func16, Tryz.ntmps16
      have k0 := b.c0
      have k1 := b.c1
      have k2 := b.c2
      have k3 := b.c3
      have k4 := b.c4
      have k5 := b.c5
      have k6 := b.c6
      have k7 := b.c7
      have k8 := b.c8
      have k9 := b.c9
      have k10 := b.c10
      have k11 := b.c11
      have k12 := b.c12
      have k13 := b.c13
      have kl := b.lt
      go_wp2_with (first
        | (go_at_call 13; refine (rIsName_any p.id _ (by have := Z1.out; unfold small at this; omega)).mono ?_; rintro e w3 ⟨rfl, rfl⟩; rw [H1.out])
        | fail)
      go_ret
      exact ⟨ret_eq (by rw [hR.out]; rfl), hch⟩
    · have es1 : decide (p.es < 0) = false := decide_eq_false x1
      by_cases x2 : 8 ≤ p.es
      · have d1 : decide (8 ≤ p.es) = true := decide_eq_true x2
        obtain rfl : a2 = false := by rw [← H2.out]; unfold upB; simp; omega
        clear x1 x2
        have hR : Hid (E = 1) := by show _ = _; rw [HEE.out]; simp
        go_enter Tryz.func16, Tryz.ntmps16
        have k0 := b.c0
        have k1 := b.c1
        have k2 := b.c2
        have k3 := b.c3
        have k4 := b.c4
        have k5 := b.c5
        have k6 := b.c6
        have k7 := b.c7
        have k8 := b.c8
        have k9 := b.c9
        have k10 := b.c10
        have k11 := b.c11
        have k12 := b.c12
        have k13 := b.c13
        have kl := b.lt
        go_wp2_with (first
          | (go_at_call 13; refine (rIsName_any p.id _ (by have := Z1.out; unfold small at this; omega)).mono ?_; rintro e w3 ⟨rfl, rfl⟩; rw [H1.out])
          | fail)
        go_ret
        exact ⟨ret_eq (by rw [hR.out]; rfl), hch⟩
      · have es2 : decide (8 ≤ p.es) = false := decide_eq_false x2
        obtain rfl : a2 = true := by rw [← H2.out]; unfold upB; simp; omega
        clear x1 x2
        by_cases x1 : p.cr < 0
        · have d1 : decide (p.cr < 0) = true := decide_eq_true x1
          obtain rfl : a3 = false := by rw [← H3.out]; unfold upB; simp; omega
          clear x1
          have hR : Hid (E = 1) := by show _ = _; rw [HEE.out]; simp
          go_enter Tryz.func16, Tryz.ntmps16
          have k0 := b.c0
          have k1 := b.c1
          have k2 := b.c2
          have k3 := b.c3
          have k4 := b.c4
          have k5 := b.c5
          have k6 := b.c6
          have k7 := b.c7
          have k8 := b.c8
          have k9 := b.c9
          have k10 := b.c10
          have k11 := b.c11
          have k12 := b.c12
          have k13 := b.c13
          have kl := b.lt
          go_wp2_with (first
            | (go_at_call 13; refine (rIsName_any p.id _ (by have := Z1.out; unfold small at this; omega)).mono ?_; rintro e w3 ⟨rfl, rfl⟩; rw [H1.out])
            | fail)
          go_ret
          exact ⟨ret_eq (by rw [hR.out]; rfl), hch⟩
        · have cr1 : decide (p.cr < 0) = false := decide_eq_false x1
          by_cases x2 : 32 ≤ p.cr
          · have d1 : decide (32 ≤ p.cr) = true := decide_eq_true x2
            obtain rfl : a3 = false := by rw [← H3.out]; unfold upB; simp; omega
            clear x1 x2
            have hR : Hid (E = 1) := by show _ = _; rw [HEE.out]; simp
            go_enter Tryz.func16, Tryz.ntmps16
            have k0 := b.c0
            have k1 := b.c1
            have k2 := b.c2
            have k3 := b.c3
            have k4 := b.c4
            have k5 := b.c5
            have k6 := b.c6
            have k7 := b.c7
            have k8 := b.c8
            have k9 := b.c9
            have k10 := b.c10
            have k11 := b.c11
            have k12 := b.c12
            have k13 := b.c13
            have kl := b.lt
            go_wp2_with (first
              | (go_at_call 13; refine (rIsName_any p.id _ (by have := Z1.out; unfold small at this; omega)).mono ?_; rintro e w3 ⟨rfl, rfl⟩; rw [H1.out])
              | fail)
            go_ret
            exact ⟨ret_eq (by rw [hR.out]; rfl), hch⟩
          · have cr2 : decide (32 ≤ p.cr) = false := decide_eq_false x2
            obtain rfl : a3 = true := by rw [← H3.out]; unfold upB; simp; omega
            clear x1 x2
            cases a4 with
            | false =>
              have hR : Hid (E = 8) := by show _ = _; rw [HEE.out]; simp
              go_enter Tryz.func16, Tryz.ntmps16
              have k0 := b.c0
              have k1 := b.c1
              have k2 := b.c2
              have k3 := b.c3
              have k4 := b.c4
              have k5 := b.c5
              have k6 := b.c6
              have k7 := b.c7
              have k8 := b.c8
              have k9 := b.c9
              have k10 := b.c10
              have k11 := b.c11
              have k12 := b.c12
              have k13 := b.c13
              have kl := b.lt
              go_wp2_with (first
                | (go_at_call 13; refine (rIsName_any p.id _ (by have := Z1.out; unfold small at this; omega)).mono ?_; rintro e w3 ⟨rfl, rfl⟩; rw [H1.out])
                | (go_at_call 34; refine (rIsCode_any p.cd _ (by have := Z2.out; unfold small at this; omega)).mono ?_; rintro e w3 ⟨rfl, rfl⟩; rw [H4.out])
                | fail)
              go_ret
              exact ⟨ret_eq (by rw [hR.out]; rfl), hch⟩
            | true =>
              by_cases y1 : S < 0
              · have d1 := decide_eq_true y1
                have hR : Hid (E = 7) := by show _ = _; rw [HEE.out]; simp [y1]
                clear y1
                go_enter Tryz.func16, Tryz.ntmps16
                have k0 := b.c0
                have k1 := b.c1
                have k2 := b.c2
                have k3 := b.c3
                have k4 := b.c4
                have k5 := b.c5
                have k6 := b.c6
                have k7 := b.c7
                have k8 := b.c8
                have k9 := b.c9
                have k10 := b.c10
                have k11 := b.c11
                have k12 := b.c12
                have k13 := b.c13
                have kl := b.lt
                go_wp2_with (first
                  | (go_at_call 13; refine (rIsName_any p.id _ (by have := Z1.out; unfold small at this; omega)).mono ?_; rintro e w3 ⟨rfl, rfl⟩; rw [H1.out])
                  | (go_at_call 34; refine (rIsCode_any p.cd _ (by have := Z2.out; unfold small at this; omega)).mono ?_; rintro e w3 ⟨rfl, rfl⟩; rw [H4.out])
                  | (go_at_call 35; refine (rsignP _ _ (by first | exact FA.out | exact FR.out)).mono ?_; rintro e w3 ⟨rfl, c3⟩; (first | rw [HS.out] | rw [HT.out]); replace b := b.keep c3 (by simp); replace hch := hch.then c3; clear c3; have k0 := b.c0; have k1 := b.c1; have k2 := b.c2; have k3 := b.c3; have k4 := b.c4; have k5 := b.c5; have k6 := b.c6; have k7 := b.c7; have k8 := b.c8; have k9 := b.c9; have k10 := b.c10; have k11 := b.c11; have k12 := b.c12; have k13 := b.c13; have kl := b.lt)
                  | fail)
                go_ret
                exact ⟨ret_eq (by rw [hR.out]; rfl), hch⟩
              · have s1 := decide_eq_false y1
                have Y1 := Lib.hid y1
                clear y1
                cases a5 with
                | false =>
                  have hR : Hid (E = 1) := by show _ = _; rw [HEE.out]; simp [Y1.out]
                  go_enter Tryz.func16, Tryz.ntmps16
                  have k0 := b.c0
                  have k1 := b.c1
                  have k2 := b.c2
                  have k3 := b.c3
                  have k4 := b.c4
                  have k5 := b.c5
                  have k6 := b.c6
                  have k7 := b.c7
                  have k8 := b.c8
                  have k9 := b.c9
                  have k10 := b.c10
                  have k11 := b.c11
                  have k12 := b.c12
                  have k13 := b.c13
                  have kl := b.lt
                  go_wp2_with (first
                    | (go_at_call 13; refine (rIsName_any p.id _ (by have := Z1.out; unfold small at this; omega)).mono ?_; rintro e w3 ⟨rfl, rfl⟩; rw [H1.out])
                    | (go_at_call 34; refine (rIsCode_any p.cd _ (by have := Z2.out; unfold small at this; omega)).mono ?_; rintro e w3 ⟨rfl, rfl⟩; rw [H4.out])
                    | (go_at_call 35; refine (rsignP _ _ (by first | exact FA.out | exact FR.out)).mono ?_; rintro e w3 ⟨rfl, c3⟩; (first | rw [HS.out] | rw [HT.out]); replace b := b.keep c3 (by simp); replace hch := hch.then c3; clear c3; have k0 := b.c0; have k1 := b.c1; have k2 := b.c2; have k3 := b.c3; have k4 := b.c4; have k5 := b.c5; have k6 := b.c6; have k7 := b.c7; have k8 := b.c8; have k9 := b.c9; have k10 := b.c10; have k11 := b.c11; have k12 := b.c12; have k13 := b.c13; have kl := b.lt)
                    | (go_at_call 36; refine (rIsDay_any _ _ _ rfl).mono ?_; rintro e w3 ⟨rfl, rfl⟩; first | rw [H5.out] | rw [H6.out])
                    | fail)
                  go_ret
                  exact ⟨ret_eq (by rw [hR.out]; rfl), hch⟩
                | true =>
                  by_cases x1 : p.rk < 0
                  · have d1 : decide (p.rk < 0) = true := decide_eq_true x1
                    obtain rfl : a7 = false := by rw [← H7.out]; unfold upB; simp; omega
                    clear x1
                    have hR : Hid (E = 1) := by show _ = _; rw [HEE.out]; simp [Y1.out]
                    go_enter Tryz.func16, Tryz.ntmps16
                    have k0 := b.c0
                    have k1 := b.c1
                    have k2 := b.c2
                    have k3 := b.c3
                    have k4 := b.c4
                    have k5 := b.c5
                    have k6 := b.c6
                    have k7 := b.c7
                    have k8 := b.c8
                    have k9 := b.c9
                    have k10 := b.c10
                    have k11 := b.c11
                    have k12 := b.c12
                    have k13 := b.c13
                    have kl := b.lt
                    go_wp2_with (first
                      | (go_at_call 13; refine (rIsName_any p.id _ (by have := Z1.out; unfold small at this; omega)).mono ?_; rintro e w3 ⟨rfl, rfl⟩; rw [H1.out])
                      | (go_at_call 34; refine (rIsCode_any p.cd _ (by have := Z2.out; unfold small at this; omega)).mono ?_; rintro e w3 ⟨rfl, rfl⟩; rw [H4.out])
                      | (go_at_call 35; refine (rsignP _ _ (by first | exact FA.out | exact FR.out)).mono ?_; rintro e w3 ⟨rfl, c3⟩; (first | rw [HS.out] | rw [HT.out]); replace b := b.keep c3 (by simp); replace hch := hch.then c3; clear c3; have k0 := b.c0; have k1 := b.c1; have k2 := b.c2; have k3 := b.c3; have k4 := b.c4; have k5 := b.c5; have k6 := b.c6; have k7 := b.c7; have k8 := b.c8; have k9 := b.c9; have k10 := b.c10; have k11 := b.c11; have k12 := b.c12; have k13 := b.c13; have kl := b.lt)
                      | (go_at_call 36; refine (rIsDay_any _ _ _ rfl).mono ?_; rintro e w3 ⟨rfl, rfl⟩; first | rw [H5.out] | rw [H6.out])
                      | fail)
                    go_ret
                    exact ⟨ret_eq (by rw [hR.out]; rfl), hch⟩
                  · have rk1 : decide (p.rk < 0) = false := decide_eq_false x1
                    by_cases x2 : 7 < p.rk
                    · have d1 : decide (7 < p.rk) = true := decide_eq_true x2
                      obtain rfl : a7 = false := by rw [← H7.out]; unfold upB; simp; omega
                      clear x1 x2
                      have hR : Hid (E = 1) := by show _ = _; rw [HEE.out]; simp [Y1.out]
                      go_enter Tryz.func16, Tryz.ntmps16
                      have k0 := b.c0
                      have k1 := b.c1
                      have k2 := b.c2
                      have k3 := b.c3
                      have k4 := b.c4
                      have k5 := b.c5
                      have k6 := b.c6
                      have k7 := b.c7
                      have k8 := b.c8
                      have k9 := b.c9
                      have k10 := b.c10
                      have k11 := b.c11
                      have k12 := b.c12
                      have k13 := b.c13
                      have kl := b.lt
                      go_wp2_with (first
                        | (go_at_call 13; refine (rIsName_any p.id _ (by have := Z1.out; unfold small at this; omega)).mono ?_; rintro e w3 ⟨rfl, rfl⟩; rw [H1.out])
                        | (go_at_call 34; refine (rIsCode_any p.cd _ (by have := Z2.out; unfold small at this; omega)).mono ?_; rintro e w3 ⟨rfl, rfl⟩; rw [H4.out])
                        | (go_at_call 35; refine (rsignP _ _ (by first | exact FA.out | exact FR.out)).mono ?_; rintro e w3 ⟨rfl, c3⟩; (first | rw [HS.out] | rw [HT.out]); replace b := b.keep c3 (by simp); replace hch := hch.then c3; clear c3; have k0 := b.c0; have k1 := b.c1; have k2 := b.c2; have k3 := b.c3; have k4 := b.c4; have k5 := b.c5; have k6 := b.c6; have k7 := b.c7; have k8 := b.c8; have k9 := b.c9; have k10 := b.c10; have k11 := b.c11; have k12 := b.c12; have k13 := b.c13; have kl := b.lt)
                        | (go_at_call 36; refine (rIsDay_any _ _ _ rfl).mono ?_; rintro e w3 ⟨rfl, rfl⟩; first | rw [H5.out] | rw [H6.out])
                        | fail)
                      go_ret
                      exact ⟨ret_eq (by rw [hR.out]; rfl), hch⟩
                    · have rk2 : decide (7 < p.rk) = false := decide_eq_false x2
                      obtain rfl : a7 = true := by rw [← H7.out]; unfold upB; simp; omega
                      clear x1 x2
                      by_cases y2 : T < 0
                      · have d1 := decide_eq_true y2
                        have hR : Hid (E = 7) := by show _ = _; rw [HEE.out]; simp [Y1.out, y2]
                        clear y2
                        go_enter Tryz.func16, Tryz.ntmps16
                        have k0 := b.c0
                        have k1 := b.c1
                        have k2 := b.c2
                        have k3 := b.c3
                        have k4 := b.c4
                        have k5 := b.c5
                        have k6 := b.c6
                        have k7 := b.c7
                        have k8 := b.c8
                        have k9 := b.c9
                        have k10 := b.c10
                        have k11 := b.c11
                        have k12 := b.c12
                        have k13 := b.c13
                        have kl := b.lt
                        go_wp2_with (first
                          | (go_at_call 13; refine (rIsName_any p.id _ (by have := Z1.out; unfold small at this; omega)).mono ?_; rintro e w3 ⟨rfl, rfl⟩; rw [H1.out])
                          | (go_at_call 34; refine (rIsCode_any p.cd _ (by have := Z2.out; unfold small at this; omega)).mono ?_; rintro e w3 ⟨rfl, rfl⟩; rw [H4.out])
                          | (go_at_call 35; refine (rsignP _ _ (by first | exact FA.out | exact FR.out)).mono ?_; rintro e w3 ⟨rfl, c3⟩; (first | rw [HS.out] | rw [HT.out]); replace b := b.keep c3 (by simp); replace hch := hch.then c3; clear c3; have k0 := b.c0; have k1 := b.c1; have k2 := b.c2; have k3 := b.c3; have k4 := b.c4; have k5 := b.c5; have k6 := b.c6; have k7 := b.c7; have k8 := b.c8; have k9 := b.c9; have k10 := b.c10; have k11 := b.c11; have k12 := b.c12; have k13 := b.c13; have kl := b.lt)
                          | (go_at_call 36; refine (rIsDay_any _ _ _ rfl).mono ?_; rintro e w3 ⟨rfl, rfl⟩; first | rw [H5.out] | rw [H6.out])
                          | fail)
                        go_ret
                        exact ⟨ret_eq (by rw [hR.out]; rfl), hch⟩
                      · have s2 := decide_eq_false y2
                        have Y2 := Lib.hid y2
                        clear y2
                        cases a6 with
                        | false =>
                          have hR : Hid (E = 1) := by show _ = _; rw [HEE.out]; simp [Y1.out, Y2.out]
                          go_enter Tryz.func16, Tryz.ntmps16
                          have k0 := b.c0
                          have k1 := b.c1
                          have k2 := b.c2
                          have k3 := b.c3
                          have k4 := b.c4
                          have k5 := b.c5
                          have k6 := b.c6
                          have k7 := b.c7
                          have k8 := b.c8
                          have k9 := b.c9
                          have k10 := b.c10
                          have k11 := b.c11
                          have k12 := b.c12
                          have k13 := b.c13
                          have kl := b.lt
                          go_wp2_with (first
                            | (go_at_call 13; refine (rIsName_any p.id _ (by have := Z1.out; unfold small at this; omega)).mono ?_; rintro e w3 ⟨rfl, rfl⟩; rw [H1.out])
                            | (go_at_call 34; refine (rIsCode_any p.cd _ (by have := Z2.out; unfold small at this; omega)).mono ?_; rintro e w3 ⟨rfl, rfl⟩; rw [H4.out])
                            | (go_at_call 35; refine (rsignP _ _ (by first | exact FA.out | exact FR.out)).mono ?_; rintro e w3 ⟨rfl, c3⟩; (first | rw [HS.out] | rw [HT.out]); replace b := b.keep c3 (by simp); replace hch := hch.then c3; clear c3; have k0 := b.c0; have k1 := b.c1; have k2 := b.c2; have k3 := b.c3; have k4 := b.c4; have k5 := b.c5; have k6 := b.c6; have k7 := b.c7; have k8 := b.c8; have k9 := b.c9; have k10 := b.c10; have k11 := b.c11; have k12 := b.c12; have k13 := b.c13; have kl := b.lt)
                            | (go_at_call 36; refine (rIsDay_any _ _ _ rfl).mono ?_; rintro e w3 ⟨rfl, rfl⟩; first | rw [H5.out] | rw [H6.out])
                            | fail)
                          go_ret
                          exact ⟨ret_eq (by rw [hR.out]; rfl), hch⟩
                        | true =>
                          by_cases y3 : T = 0
                          · have t0 : (T == 0) = true := by simpa using y3
                            by_cases y4 : p.rf = 0
                            · have f0 : (p.rf != 0) = false := by simpa using y4
                              have Y4 := Lib.hid y4
                              clear y3 y4
                              by_cases x1 : p.sec < -1
                              · have d1 : decide (p.sec < -1) = true := decide_eq_true x1
                                obtain rfl : a8 = false := by rw [← H8.out]; unfold upB; simp; omega
                                have x3 : p.sec ≠ -1 := by omega
                                clear x1
                                have hR : Hid (E = 1) := by show _ = _; rw [HEE.out]; simp [Y1.out, Y2.out, Y4.out, x3]
                                clear x3
                                go_enter Tryz.func16, Tryz.ntmps16
                                have k0 := b.c0
                                have k1 := b.c1
                                have k2 := b.c2
                                have k3 := b.c3
                                have k4 := b.c4
                                have k5 := b.c5
                                have k6 := b.c6
                                have k7 := b.c7
                                have k8 := b.c8
                                have k9 := b.c9
                                have k10 := b.c10
                                have k11 := b.c11
                                have k12 := b.c12
                                have k13 := b.c13
                                have kl := b.lt
                                go_wp2_with (first
                                  | (go_at_call 13; refine (rIsName_any p.id _ (by have := Z1.out; unfold small at this; omega)).mono ?_; rintro e w3 ⟨rfl, rfl⟩; rw [H1.out])
                                  | (go_at_call 34; refine (rIsCode_any p.cd _ (by have := Z2.out; unfold small at this; omega)).mono ?_; rintro e w3 ⟨rfl, rfl⟩; rw [H4.out])
                                  | (go_at_call 35; refine (rsignP _ _ (by first | exact FA.out | exact FR.out)).mono ?_; rintro e w3 ⟨rfl, c3⟩; (first | rw [HS.out] | rw [HT.out]); replace b := b.keep c3 (by simp); replace hch := hch.then c3; clear c3; have k0 := b.c0; have k1 := b.c1; have k2 := b.c2; have k3 := b.c3; have k4 := b.c4; have k5 := b.c5; have k6 := b.c6; have k7 := b.c7; have k8 := b.c8; have k9 := b.c9; have k10 := b.c10; have k11 := b.c11; have k12 := b.c12; have k13 := b.c13; have kl := b.lt)
                                  | (go_at_call 36; refine (rIsDay_any _ _ _ rfl).mono ?_; rintro e w3 ⟨rfl, rfl⟩; first | rw [H5.out] | rw [H6.out])
                                  | fail)
                                go_ret
                                exact ⟨ret_eq (by rw [hR.out]; rfl), hch⟩
                              · have e1 : decide (p.sec < -1) = false := decide_eq_false x1
                                by_cases x2 : 8 ≤ p.sec
                                · have d1 : decide (8 ≤ p.sec) = true := decide_eq_true x2
                                  obtain rfl : a8 = false := by rw [← H8.out]; unfold upB; simp; omega
                                  have x3 : p.sec ≠ -1 := by omega
                                  clear x1 x2
                                  have hR : Hid (E = 1) := by show _ = _; rw [HEE.out]; simp [Y1.out, Y2.out, Y4.out, x3]
                                  clear x3
                                  go_enter Tryz.func16, Tryz.ntmps16
                                  have k0 := b.c0
                                  have k1 := b.c1
                                  have k2 := b.c2
                                  have k3 := b.c3
                                  have k4 := b.c4
                                  have k5 := b.c5
                                  have k6 := b.c6
                                  have k7 := b.c7
                                  have k8 := b.c8
                                  have k9 := b.c9
                                  have k10 := b.c10
                                  have k11 := b.c11
                                  have k12 := b.c12
                                  have k13 := b.c13
                                  have kl := b.lt
                                  go_wp2_with (first
                                    | (go_at_call 13; refine (rIsName_any p.id _ (by have := Z1.out; unfold small at this; omega)).mono ?_; rintro e w3 ⟨rfl, rfl⟩; rw [H1.out])
                                    | (go_at_call 34; refine (rIsCode_any p.cd _ (by have := Z2.out; unfold small at this; omega)).mono ?_; rintro e w3 ⟨rfl, rfl⟩; rw [H4.out])
                                    | (go_at_call 35; refine (rsignP _ _ (by first | exact FA.out | exact FR.out)).mono ?_; rintro e w3 ⟨rfl, c3⟩; (first | rw [HS.out] | rw [HT.out]); replace b := b.keep c3 (by simp); replace hch := hch.then c3; clear c3; have k0 := b.c0; have k1 := b.c1; have k2 := b.c2; have k3 := b.c3; have k4 := b.c4; have k5 := b.c5; have k6 := b.c6; have k7 := b.c7; have k8 := b.c8; have k9 := b.c9; have k10 := b.c10; have k11 := b.c11; have k12 := b.c12; have k13 := b.c13; have kl := b.lt)
                                    | (go_at_call 36; refine (rIsDay_any _ _ _ rfl).mono ?_; rintro e w3 ⟨rfl, rfl⟩; first | rw [H5.out] | rw [H6.out])
                                    | fail)
                                  go_ret
                                  exact ⟨ret_eq (by rw [hR.out]; rfl), hch⟩
                                · have e2 : decide (8 ≤ p.sec) = false := decide_eq_false x2
                                  have x3 : p.sec = -1 ∨ a8 = true := by
                                    by_cases x4 : p.sec = -1
                                    · exact .inl x4
                                    · right; rw [← H8.out]; unfold upB; simp; omega
                                  clear x1 x2
                                  have hR : Hid (E = 0) := by show _ = _; rw [HEE.out]; rcases x3 with x3 | x3 <;> simp [Y1.out, Y2.out, Y4.out, x3]
                                  clear x3
                                  go_enter Tryz.func16, Tryz.ntmps16
                                  have k0 := b.c0
                                  have k1 := b.c1
                                  have k2 := b.c2
                                  have k3 := b.c3
                                  have k4 := b.c4
                                  have k5 := b.c5
                                  have k6 := b.c6
                                  have k7 := b.c7
                                  have k8 := b.c8
                                  have k9 := b.c9
                                  have k10 := b.c10
                                  have k11 := b.c11
                                  have k12 := b.c12
                                  have k13 := b.c13
                                  have kl := b.lt
                                  go_wp2_with (first
                                    | (go_at_call 13; refine (rIsName_any p.id _ (by have := Z1.out; unfold small at this; omega)).mono ?_; rintro e w3 ⟨rfl, rfl⟩; rw [H1.out])
                                    | (go_at_call 34; refine (rIsCode_any p.cd _ (by have := Z2.out; unfold small at this; omega)).mono ?_; rintro e w3 ⟨rfl, rfl⟩; rw [H4.out])
                                    | (go_at_call 35; refine (rsignP _ _ (by first | exact FA.out | exact FR.out)).mono ?_; rintro e w3 ⟨rfl, c3⟩; (first | rw [HS.out] | rw [HT.out]); replace b := b.keep c3 (by simp); replace hch := hch.then c3; clear c3; have k0 := b.c0; have k1 := b.c1; have k2 := b.c2; have k3 := b.c3; have k4 := b.c4; have k5 := b.c5; have k6 := b.c6; have k7 := b.c7; have k8 := b.c8; have k9 := b.c9; have k10 := b.c10; have k11 := b.c11; have k12 := b.c12; have k13 := b.c13; have kl := b.lt)
                                    | (go_at_call 36; refine (rIsDay_any _ _ _ rfl).mono ?_; rintro e w3 ⟨rfl, rfl⟩; first | rw [H5.out] | rw [H6.out])
                                    | fail)
                                  go_ret
                                  exact ⟨ret_eq (by rw [hR.out]; rfl), hch⟩
                            · have f0 : (p.rf != 0) = true := by simpa using y4
                              have hR : Hid (E = 1) := by show _ = _; rw [HEE.out]; simp [Y1.out, y3, y4]
                              clear y3 y4
                              go_enter Tryz.func16, Tryz.ntmps16
                              have k0 := b.c0
                              have k1 := b.c1
                              have k2 := b.c2
                              have k3 := b.c3
                              have k4 := b.c4
                              have k5 := b.c5
                              have k6 := b.c6
                              have k7 := b.c7
                              have k8 := b.c8
                              have k9 := b.c9
                              have k10 := b.c10
                              have k11 := b.c11
                              have k12 := b.c12
                              have k13 := b.c13
                              have kl := b.lt
                              go_wp2_with (first
                                | (go_at_call 13; refine (rIsName_any p.id _ (by have := Z1.out; unfold small at this; omega)).mono ?_; rintro e w3 ⟨rfl, rfl⟩; rw [H1.out])
                                | (go_at_call 34; refine (rIsCode_any p.cd _ (by have := Z2.out; unfold small at this; omega)).mono ?_; rintro e w3 ⟨rfl, rfl⟩; rw [H4.out])
                                | (go_at_call 35; refine (rsignP _ _ (by first | exact FA.out | exact FR.out)).mono ?_; rintro e w3 ⟨rfl, c3⟩; (first | rw [HS.out] | rw [HT.out]); replace b := b.keep c3 (by simp); replace hch := hch.then c3; clear c3; have k0 := b.c0; have k1 := b.c1; have k2 := b.c2; have k3 := b.c3; have k4 := b.c4; have k5 := b.c5; have k6 := b.c6; have k7 := b.c7; have k8 := b.c8; have k9 := b.c9; have k10 := b.c10; have k11 := b.c11; have k12 := b.c12; have k13 := b.c13; have kl := b.lt)
                                | (go_at_call 36; refine (rIsDay_any _ _ _ rfl).mono ?_; rintro e w3 ⟨rfl, rfl⟩; first | rw [H5.out] | rw [H6.out])
                                | fail)
                              go_ret
                              exact ⟨ret_eq (by rw [hR.out]; rfl), hch⟩
                          · have t0 : (T == 0) = false := by simpa using y3
                            have Y3 := Lib.hid y3
                            clear y3
                            by_cases x1 : p.sec < -1
                            · have d1 : decide (p.sec < -1) = true := decide_eq_true x1
                              obtain rfl : a8 = false := by rw [← H8.out]; unfold upB; simp; omega
                              have x3 : p.sec ≠ -1 := by omega
                              clear x1
                              have hR : Hid (E = 1) := by show _ = _; rw [HEE.out]; simp [Y1.out, Y2.out, Y3.out, x3]
                              clear x3
                              go_enter Tryz.func16, Tryz.ntmps16
                              have k0 := b.c0
                              have k1 := b.c1
                              have k2 := b.c2
                              have k3 := b.c3
                              have k4 := b.c4
                              have k5 := b.c5
                              have k6 := b.c6
                              have k7 := b.c7
                              have k8 := b.c8
                              have k9 := b.c9
                              have k10 := b.c10
                              have k11 := b.c11
                              have k12 := b.c12
                              have k13 := b.c13
                              have kl := b.lt
                              go_wp2_with (first
                                | (go_at_call 13; refine (rIsName_any p.id _ (by have := Z1.out; unfold small at this; omega)).mono ?_; rintro e w3 ⟨rfl, rfl⟩; rw [H1.out])
                                | (go_at_call 34; refine (rIsCode_any p.cd _ (by have := Z2.out; unfold small at this; omega)).mono ?_; rintro e w3 ⟨rfl, rfl⟩; rw [H4.out])
                                | (go_at_call 35; refine (rsignP _ _ (by first | exact FA.out | exact FR.out)).mono ?_; rintro e w3 ⟨rfl, c3⟩; (first | rw [HS.out] | rw [HT.out]); replace b := b.keep c3 (by simp); replace hch := hch.then c3; clear c3; have k0 := b.c0; have k1 := b.c1; have k2 := b.c2; have k3 := b.c3; have k4 := b.c4; have k5 := b.c5; have k6 := b.c6; have k7 := b.c7; have k8 := b.c8; have k9 := b.c9; have k10 := b.c10; have k11 := b.c11; have k12 := b.c12; have k13 := b.c13; have kl := b.lt)
                                | (go_at_call 36; refine (rIsDay_any _ _ _ rfl).mono ?_; rintro e w3 ⟨rfl, rfl⟩; first | rw [H5.out] | rw [H6.out])
                                | fail)
                              go_ret
                              exact ⟨ret_eq (by rw [hR.out]; rfl), hch⟩
                            · have e1 : decide (p.sec < -1) = false := decide_eq_false x1
                              by_cases x2 : 8 ≤ p.sec
                              · have d1 : decide (8 ≤ p.sec) = true := decide_eq_true x2
                                obtain rfl : a8 = false := by rw [← H8.out]; unfold upB; simp; omega
                                have x3 : p.sec ≠ -1 := by omega
                                clear x1 x2
                                have hR : Hid (E = 1) := by show _ = _; rw [HEE.out]; simp [Y1.out, Y2.out, Y3.out, x3]
                                clear x3
                                go_enter Tryz.func16, Tryz.ntmps16
                                have k0 := b.c0
                                have k1 := b.c1
                                have k2 := b.c2
                                have k3 := b.c3
                                have k4 := b.c4
                                have k5 := b.c5
                                have k6 := b.c6
                                have k7 := b.c7
                                have k8 := b.c8
                                have k9 := b.c9
                                have k10 := b.c10
                                have k11 := b.c11
                                have k12 := b.c12
                                have k13 := b.c13
                                have kl := b.lt
                                go_wp2_with (first
                                  | (go_at_call 13; refine (rIsName_any p.id _ (by have := Z1.out; unfold small at this; omega)).mono ?_; rintro e w3 ⟨rfl, rfl⟩; rw [H1.out])
                                  | (go_at_call 34; refine (rIsCode_any p.cd _ (by have := Z2.out; unfold small at this; omega)).mono ?_; rintro e w3 ⟨rfl, rfl⟩; rw [H4.out])
                                  | (go_at_call 35; refine (rsignP _ _ (by first | exact FA.out | exact FR.out)).mono ?_; rintro e w3 ⟨rfl, c3⟩; (first | rw [HS.out] | rw [HT.out]); replace b := b.keep c3 (by simp); replace hch := hch.then c3; clear c3; have k0 := b.c0; have k1 := b.c1; have k2 := b.c2; have k3 := b.c3; have k4 := b.c4; have k5 := b.c5; have k6 := b.c6; have k7 := b.c7; have k8 := b.c8; have k9 := b.c9; have k10 := b.c10; have k11 := b.c11; have k12 := b.c12; have k13 := b.c13; have kl := b.lt)
                                  | (go_at_call 36; refine (rIsDay_any _ _ _ rfl).mono ?_; rintro e w3 ⟨rfl, rfl⟩; first | rw [H5.out] | rw [H6.out])
                                  | fail)
                                go_ret
                                exact ⟨ret_eq (by rw [hR.out]; rfl), hch⟩
                              · have e2 : decide (8 ≤ p.sec) = false := decide_eq_false x2
                                have x3 : p.sec = -1 ∨ a8 = true := by
                                  by_cases x4 : p.sec = -1
                                  · exact .inl x4
                                  · right; rw [← H8.out]; unfold upB; simp; omega
                                clear x1 x2
                                have hR : Hid (E = 0) := by show _ = _; rw [HEE.out]; rcases x3 with x3 | x3 <;> simp [Y1.out, Y2.out, Y3.out, x3]
                                clear x3
                                go_enter Tryz.func16, Tryz.ntmps16
                                have k0 := b.c0
                                have k1 := b.c1
                                have k2 := b.c2
                                have k3 := b.c3
                                have k4 := b.c4
                                have k5 := b.c5
                                have k6 := b.c6
                                have k7 := b.c7
                                have k8 := b.c8
                                have k9 := b.c9
                                have k10 := b.c10
                                have k11 := b.c11
                                have k12 := b.c12
                                have k13 := b.c13
                                have kl := b.lt
                                go_wp2_with (first
                                  | (go_at_call 13; refine (rIsName_any p.id _ (by have := Z1.out; unfold small at this; omega)).mono ?_; rintro e w3 ⟨rfl, rfl⟩; rw [H1.out])
                                  | (go_at_call 34; refine (rIsCode_any p.cd _ (by have := Z2.out; unfold small at this; omega)).mono ?_; rintro e w3 ⟨rfl, rfl⟩; rw [H4.out])
                                  | (go_at_call 35; refine (rsignP _ _ (by first | exact FA.out | exact FR.out)).mono ?_; rintro e w3 ⟨rfl, c3⟩; (first | rw [HS.out] | rw [HT.out]); replace b := b.keep c3 (by simp); replace hch := hch.then c3; clear c3; have k0 := b.c0; have k1 := b.c1; have k2 := b.c2; have k3 := b.c3; have k4 := b.c4; have k5 := b.c5; have k6 := b.c6; have k7 := b.c7; have k8 := b.c8; have k9 := b.c9; have k10 := b.c10; have k11 := b.c11; have k12 := b.c12; have k13 := b.c13; have kl := b.lt)
                                  | (go_at_call 36; refine (rIsDay_any _ _ _ rfl).mono ?_; rintro e w3 ⟨rfl, rfl⟩; first | rw [H5.out] | rw [H6.out])
                                  | fail)
                                go_ret
                                exact ⟨ret_eq (by rw [hR.out]; rfl), hch⟩
end Go.Proofs.YtogciehmdlfkfaaGreatDoor
