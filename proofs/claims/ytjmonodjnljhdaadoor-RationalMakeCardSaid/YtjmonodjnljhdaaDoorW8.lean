/-
  Walks: subtractMultiple, add (limbs).
-/
import Derived.Test.YtjmonodjnljhdaaDoorW7
namespace Go.Proofs.YtjmonodjnljhdaaDoor
open Go.RowKit Nd

set_option maxRecDepth 20000 in
set_option maxHeartbeats 1600000 in
theorem subM_any (gu o cu cu' gv cv q m : Nat) (U V : List Nat) (w : World) (hU : Row 77 .u32 w gu cu U) (hV : Row 77 .u32 w gv cv V) (hne : gv ≠ gu) (dU : dig 4294967296 U) (dV : dig 4294967296 V)
    (hm : V.length = m) (hmb : m ≤ 1099511627776) (hou : o + m < U.length) (hq : q < 4294967296) :
    Calls Tryd.prog 94 #[.slice (some ⟨gu, o, none⟩) (m + 1) cu', .slice (some ⟨gv, 0, none⟩) m cv, .int .u32 q] w fun e w' => ∃ (neg : Bool) (L : List Nat), e = .returned (.bool neg) ∧
      Row 77 .u32 w' gu cu L ∧ Row 77 .u32 w' gv cv V ∧ Chg [gu] w w' ∧ L.length = U.length ∧ dig 4294967296 L ∧ (∀ j, (j < o ∨ o + (m + 1) ≤ j) → L.getD j 0 = U.getD j 0) ∧
      win 4294967296 L o (m + 1) + q * lv 4294967296 V = win 4294967296 U o (m + 1) + 4294967296 ^ (m + 1) * neg.toNat := by
  have HM := Lib.hid hm; clear hm
  go_enter Tryd.func94, Tryd.ntmps94
  go_wp2_with fail
  go_loopw [7, 14] (fun cv' iv wr => ∃ (i c : Nat) (L : List Nat), i ≤ m ∧ iv = .int .i64 i ∧ cv' = .int .u64 c ∧ SubM U V o q i c L ∧ Row 77 .u32 wr gu cu L ∧ Row 77 .u32 wr gv cv V ∧ Chg [gu] w wr)
    (fun _ iv _ => m - (intOf iv).toNat)
  case atStart => exact ⟨0, 0, U, Nat.zero_le _, rfl, rfl, SubM.start o q dU, hU, hV, Chg.refl _ _⟩
  case round =>
    obtain ⟨i, c, L, hile, rfl, rfl, hP, hru, hrv, hchr⟩ := hrel
    clear hU hV
    by_cases hlt : i < m
    · have hcv := hrv.cell i (by rw [HM.out]; exact hlt)
      obtain ⟨v, HV⟩ := name_it (V.getD i 0)
      rw [HV.out] at hcv
      have hv : v < 4294967296 := by rw [← HV.out]; exact dig_getD (by omega) dV i
      have hcu := hru.cell (o + i) (by rw [hP.len]; omega)
      have hfr := hru.frozen (o + i)
      have hLU := hP.other (o + i) (by omega)
      obtain ⟨x, HX⟩ := name_it (L.getD (o + i) 0)
      rw [HX.out] at hcu hLU
      have HLU := Lib.hid hLU.symm; clear hLU
      have hx : x < 4294967296 := by rw [← HX.out]; exact dig_getD (by omega) hP.digs _
      have hc := hP.carry
      obtain ⟨p, HPP⟩ := name_it (v * q)
      have hp : p ≤ 18446744065119617025 := by rw [← HPP.out]; exact mul_bound hv hq
      have hpe : (v : Int) * (q : Int) = (p : Int) := by rw [← HPP.out]; simp
      by_cases hb : x < (c + p) % 4294967296
      · have hst := hP.step hq HV.out dV (by omega) (x + 4294967296 - (c + p) % 4294967296) ((c + p) / 4294967296 + 1) (by omega) (by rw [HLU.out, HPP.out]; omega)
        have HST := Lib.hid hst.2
        have hb2 := hst.1
        clear hst hP
        have hbi : (x : Int) < ((c : Int) + (p : Int)) % 4294967296 := by omega
        have e1 : Hid (((x : Int) - ((c : Int) + (p : Int))) % 4294967296 = ((x + 4294967296 - (c + p) % 4294967296 : Nat) : Int)) := by show _ = _; omega
        have e2 : Hid (((c : Int) + (p : Int)) / 4294967296 + 1 = (((c + p) / 4294967296 + 1 : Nat) : Int)) := by show _ = _; omega
        go_wp2
        go_roundw
        case rel =>
          rw [e1.out, e2.out]
          exact ⟨i + 1, _, _, by omega, by go_num, rfl, HST.out, hru.store _ _, hrv.other hne _, hchr.setCell (.inl (by simp)) _⟩
        case measure => simp [intOf]; omega
      · have hst := hP.step hq HV.out dV (by omega) (x - (c + p) % 4294967296) ((c + p) / 4294967296) (by omega) (by rw [HLU.out, HPP.out]; omega)
        have HST := Lib.hid hst.2
        have hb2 := hst.1
        clear hst hP
        have hbi : ¬ (x : Int) < ((c : Int) + (p : Int)) % 4294967296 := by omega
        have e1 : Hid (((x : Int) - ((c : Int) + (p : Int))) % 4294967296 = ((x - (c + p) % 4294967296 : Nat) : Int)) := by show _ = _; omega
        have e2 : Hid (((c : Int) + (p : Int)) / 4294967296 = (((c + p) / 4294967296 : Nat) : Int)) := by show _ = _; omega
        have e3 : Hid (((x : Int) - ((c : Int) + (p : Int)) % 4294967296) = ((x - (c + p) % 4294967296 : Nat) : Int)) := by show _ = _; omega
        go_wp2
        go_roundw
        case rel =>
          rw [e2.out]
          first | rw [e1.out] | rw [e3.out]
          exact ⟨i + 1, _, _, by omega, by go_num, rfl, HST.out, hru.store _ _, hrv.other hne _, hchr.setCell (.inl (by simp)) _⟩
        case measure => simp [intOf]; omega
    · have him : i = m := by omega
      subst him
      have hcu := hru.cell (o + i) (by rw [hP.len]; exact hou)
      have hfr := hru.frozen (o + i)
      have hLU := hP.other (o + i) (by omega)
      obtain ⟨x, HX⟩ := name_it (L.getD (o + i) 0)
      rw [HX.out] at hcu hLU
      have HLU := Lib.hid hLU.symm; clear hLU
      have hx : x < 4294967296 := by rw [← HX.out]; exact dig_getD (by omega) hP.digs _
      have hc := hP.carry
      have hval := hP.value
      rw [List.take_of_length_le (by rw [HM.out]; exact Nat.le_refl _)] at hval
      have HVAL := Lib.hid hval; clear hval
      have fin : ∀ (d b : Nat), d < 4294967296 → d + c = x + 4294967296 * b →
          (L.set (o + i) d).length = U.length ∧ dig 4294967296 (L.set (o + i) d) ∧ (∀ j, (j < o ∨ o + (i + 1) ≤ j) → (L.set (o + i) d).getD j 0 = U.getD j 0) ∧
          win 4294967296 (L.set (o + i) d) o (i + 1) + q * lv 4294967296 V = win 4294967296 U o (i + 1) + 4294967296 ^ (i + 1) * b := by
        intro d b hd hb
        refine ⟨by simpa using hP.len, dig_set hP.digs _ _ hd, fun j hj => ?_, ?_⟩
        · rw [Nd.getD_set_ne (by omega)]
          exact hP.other j (by omega)
        · have h1 := HVAL.out
          have h2 : 4294967296 ^ i * (d + c) = 4294967296 ^ i * (x + 4294967296 * b) := by rw [hb]
          rw [win, win, win_set_out _ _ _ _ _ _ (by omega), Nd.getD_set_eq (by rw [hP.len]; exact hou), HLU.out, Nat.pow_succ, Nat.mul_assoc]
          simp only [Nat.mul_add] at h2
          omega
      have FIN := Lib.hid fin
      clear fin
      by_cases hb : x < c
      · have e1 : Hid (((x : Int) - (c : Int)) % 4294967296 = ((x + 4294967296 - c : Nat) : Int)) := by show _ = _; omega
        have e3 : Hid (((x : Int) - (c : Int) + 4294967296) = ((x + 4294967296 - c : Nat) : Int)) := by show _ = _; omega
        have hF := Lib.hid (FIN.out (x + 4294967296 - c) 1 (by omega) (by omega))
        clear hP
        go_wp2
        go_ret
        rw [e1.out]
        exact ⟨true, _, ret_eq (by simp), hru.store _ _, hrv.other hne _, hchr.setCell (.inl (by simp)) _, hF.out.1, hF.out.2.1, hF.out.2.2.1, by simpa using hF.out.2.2.2⟩
      · have e1 : Hid (((x : Int) - (c : Int)) = ((x - c : Nat) : Int)) := by show _ = _; omega
        have hF := Lib.hid (FIN.out (x - c) 0 (by omega) (by omega))
        clear hP
        go_wp2
        go_ret
        rw [e1.out]
        exact ⟨false, _, ret_eq (by simp), hru.store _ _, hrv.other hne _, hchr.setCell (.inl (by simp)) _, hF.out.1, hF.out.2.1, hF.out.2.2.1, by simpa using hF.out.2.2.2⟩

set_option maxRecDepth 20000 in
set_option maxHeartbeats 1600000 in
theorem addM_any (gu o cu cu' gv cv m : Nat) (U V : List Nat) (w : World) (hU : Row 77 .u32 w gu cu U) (hV : Row 77 .u32 w gv cv V) (hne : gv ≠ gu) (dU : dig 4294967296 U) (dV : dig 4294967296 V)
    (hm : V.length = m) (hmb : m ≤ 1099511627776) (hou : o + m < U.length) :
    Calls Tryd.prog 95 #[.slice (some ⟨gu, o, none⟩) (m + 1) cu', .slice (some ⟨gv, 0, none⟩) m cv] w fun e w' => ∃ (big : Bool) (L : List Nat), e = .returned (.bool big) ∧
      Row 77 .u32 w' gu cu L ∧ Row 77 .u32 w' gv cv V ∧ Chg [gu] w w' ∧ L.length = U.length ∧ dig 4294967296 L ∧ (∀ j, (j < o ∨ o + (m + 1) ≤ j) → L.getD j 0 = U.getD j 0) ∧
      win 4294967296 L o (m + 1) + 4294967296 ^ (m + 1) * big.toNat = win 4294967296 U o (m + 1) + lv 4294967296 V := by
  have HM := Lib.hid hm; clear hm
  go_enter Tryd.func95, Tryd.ntmps95
  go_wp2_with fail
  go_loopw [5, 10] (fun cv' iv wr => ∃ (i c : Nat) (L : List Nat), i ≤ m ∧ iv = .int .i64 i ∧ cv' = .int .u64 c ∧ AddM U V o i c L ∧ Row 77 .u32 wr gu cu L ∧ Row 77 .u32 wr gv cv V ∧ Chg [gu] w wr)
    (fun _ iv _ => m - (intOf iv).toNat)
  case atStart => exact ⟨0, 0, U, Nat.zero_le _, rfl, rfl, AddM.start o dU, hU, hV, Chg.refl _ _⟩
  case round =>
    obtain ⟨i, c, L, hile, rfl, rfl, hP, hru, hrv, hchr⟩ := hrel
    clear hU hV
    by_cases hlt : i < m
    · have hcv := hrv.cell i (by rw [HM.out]; exact hlt)
      obtain ⟨v, HV⟩ := name_it (V.getD i 0)
      rw [HV.out] at hcv
      have hv : v < 4294967296 := by rw [← HV.out]; exact dig_getD (by omega) dV i
      have hcu := hru.cell (o + i) (by rw [hP.len]; omega)
      have hfr := hru.frozen (o + i)
      have hst := hP.step HV.out dV (by omega)
      have hLU := hP.other (o + i) (by omega)
      obtain ⟨x, HX⟩ := name_it (L.getD (o + i) 0)
      rw [HX.out] at hcu hLU
      rw [← hLU] at hst
      have HST := Lib.hid hst
      clear hLU hst
      have hx : x < 4294967296 := by rw [← HX.out]; exact dig_getD (by omega) hP.digs _
      have hc := hP.carry
      have e1 : Hid (((c : Int) + ((x : Int) + (v : Int))) % 4294967296 = (((c + (x + v)) % 4294967296 : Nat) : Int)) := by show _ = _; omega
      have e2 : Hid (((c : Int) + ((x : Int) + (v : Int))) / 4294967296 = (((c + (x + v)) / 4294967296 : Nat) : Int)) := by show _ = _; omega
      clear hP
      go_wp2
      go_roundw
      case rel =>
        rw [e1.out, e2.out]
        exact ⟨i + 1, _, _, by omega, by go_num, rfl, HST.out, hru.store _ _, hrv.other hne _, hchr.setCell (.inl (by simp)) _⟩
      case measure => simp [intOf]; omega
    · have him : i = m := by omega
      subst him
      have hcu := hru.cell (o + i) (by rw [hP.len]; exact hou)
      have hfr := hru.frozen (o + i)
      have hLU := hP.other (o + i) (by omega)
      obtain ⟨x, HX⟩ := name_it (L.getD (o + i) 0)
      rw [HX.out] at hcu hLU
      have HLU := Lib.hid hLU.symm; clear hLU
      have hx : x < 4294967296 := by rw [← HX.out]; exact dig_getD (by omega) hP.digs _
      have hc := hP.carry
      have hval := hP.value
      rw [List.take_of_length_le (by rw [HM.out]; exact Nat.le_refl _)] at hval
      have HVAL := Lib.hid hval; clear hval
      have fin : ∀ (d b : Nat), d < 4294967296 → c + x = d + 4294967296 * b →
          (L.set (o + i) d).length = U.length ∧ dig 4294967296 (L.set (o + i) d) ∧ (∀ j, (j < o ∨ o + (i + 1) ≤ j) → (L.set (o + i) d).getD j 0 = U.getD j 0) ∧
          win 4294967296 (L.set (o + i) d) o (i + 1) + 4294967296 ^ (i + 1) * b = win 4294967296 U o (i + 1) + lv 4294967296 V := by
        intro d b hd hb
        refine ⟨by simpa using hP.len, dig_set hP.digs _ _ hd, fun j hj => ?_, ?_⟩
        · rw [Nd.getD_set_ne (by omega)]
          exact hP.other j (by omega)
        · have h1 := HVAL.out
          have h2 : 4294967296 ^ i * (c + x) = 4294967296 ^ i * (d + 4294967296 * b) := by rw [hb]
          rw [win, win, win_set_out _ _ _ _ _ _ (by omega), Nd.getD_set_eq (by rw [hP.len]; exact hou), HLU.out, Nat.pow_succ, Nat.mul_assoc]
          simp only [Nat.mul_add] at h2
          omega
      have FIN := Lib.hid fin
      clear fin
      have e1 : Hid (((c : Int) + (x : Int)) % 4294967296 = (((c + x) % 4294967296 : Nat) : Int)) := by show _ = _; omega
      by_cases hb : c + x < 4294967296
      · have hF := Lib.hid (FIN.out (c + x) 0 (by omega) (by omega))
        have e1 : Hid (((c : Int) + (x : Int)) = ((c + x : Nat) : Int)) := by show _ = _; omega
        have hbi : (((c : Int) + (x : Int)) / 4294967296 != 0) = false := by rw [bne_eq_false_iff_eq]; omega
        clear hP
        go_wp2
        go_ret
        rw [e1.out]
        exact ⟨false, _, ret_eq (by rfl), hru.store _ _, hrv.other hne _, hchr.setCell (.inl (by simp)) _, hF.out.1, hF.out.2.1, hF.out.2.2.1, by simpa using hF.out.2.2.2⟩
      · have hF := Lib.hid (FIN.out ((c + x) % 4294967296) 1 (by omega) (by omega))
        have hbi : (((c : Int) + (x : Int)) / 4294967296 != 0) = true := by rw [bne_iff_ne]; omega
        clear hP
        go_wp2
        go_ret
        rw [e1.out]
        exact ⟨true, _, ret_eq (by rfl), hru.store _ _, hrv.other hne _, hchr.setCell (.inl (by simp)) _, hF.out.1, hF.out.2.1, hF.out.2.2.1, by simpa using hF.out.2.2.2⟩

end Go.Proofs.YtjmonodjnljhdaaDoor
