/-
  Several parts put together: DA0, DL1, DL2.
-/
import Derived.Test.YtogciehmdlfkfaaGreatDoorHD
import Derived.Test.YtogciehmdlfkfaaGreatDoorHE
import Derived.Test.YtogciehmdlfkfaaGreatDoorKB
import Derived.Test.YtogciehmdlfkfaaGreatDoorHR
/- Part DA0. -/

namespace Go.Proofs.YtogciehmdlfkfaaGreatDoor
open Go.RowKit Nd

def awT : ByteArray := ⟨#[112, 114, 111, 111, 102, 32, 65, 49, 10, 101, 115, 116, 97, 116, 101, 32, 50, 10, 99, 114, 101, 100, 105, 116, 111, 114, 32, 53, 10, 97, 109, 111, 117, 110, 116, 32, 69, 85, 82, 32, 51, 46, 53, 48, 10, 105, 110, 99, 117, 114, 114, 101, 100, 32, 55, 10, 114, 97, 110, 107, 32, 50, 10]⟩
def awS : ByteArray := ⟨#[112, 114, 111, 111, 102, 32, 65, 49, 10, 101, 115, 116, 97, 116, 101, 32, 50, 10, 99, 114, 101, 100, 105, 116, 111, 114, 32, 53, 10, 97, 109, 111, 117, 110, 116, 32, 69, 85, 82, 32, 55, 47, 50, 10, 105, 110, 99, 117, 114, 114, 101, 100, 32, 55, 10, 114, 97, 110, 107, 32, 50, 10]⟩
def awP : Pf := ⟨⟨#[65, 49]⟩, 2, 5, ⟨#[69, 85, 82]⟩, ⟨false, ⟨#[7]⟩, ⟨#[2]⟩⟩, 7, 2, q0, 0, -1⟩
theorem aw_parse : parseT awT.data.toList = ([awP], 0, 0) := by kernel_rfl
theorem aw_fmtE : fmtE [awP] = 0 := by kernel_rfl
theorem aw_fmtT : fmtT [awP] = awS.data.toList := by kernel_rfl
theorem aw_qc : (⟨false, ⟨#[7]⟩, ⟨#[2]⟩⟩ : Q3) = qc (sq (fsg 7 2) (7 : Int).natAbs (2 : Int).natAbs) := by kernel_rfl
theorem aw_docs : Docs [awP] := by
  have hs : ∀ x : ByteArray, x.size ≤ 100 → small x := fun x h => Nat.le_trans h (by omega)
  have hp : DocP awP := ⟨⟨⟨by decide, by decide⟩, ⟨by decide, by decide⟩⟩, hs _ (by decide), hs _ (by decide), hs _ (by decide +kernel), hs _ (by decide +kernel), ⟨by decide, by decide⟩, ⟨by decide, by decide⟩, ⟨by decide, by decide⟩, ⟨by decide, by decide⟩, ⟨by decide, by decide⟩, fun h => absurd rfl h⟩
  exact ⟨fun p h => by simp at h; subst h; exact hp.fit, fun _ p h => by simp at h; subst h; exact hp⟩
set_option maxRecDepth 20000 in
set_option maxHeartbeats 4000000 in
theorem awake9_any (w : World) (hgl : Gl w) :
    Calls Tryz.prog 11 #[] w fun e w' => e = .returned (.bool true) ∧ Chg [] w w' := by
  have HGL := Lib.hid hgl
  clear hgl
  have HP : Hid (∀ W, Gl W → Calls Tryz.prog 17 #[.string awT] W (ParsePo W ([awP], 0, 0))) := by
    show ∀ _, _
    intro W hW
    have := pParse_any awT W hW (by decide)
    rw [aw_parse] at this; exact this
  go_enter Tryz.func11, Tryz.ntmps11
  go_wp2_with fail
  refine (HP.out _ HGL.out).mono ?_
  rintro e w1 ⟨⟨A, cap, rfl, h1, h2, hs, c1⟩⟩
  have HSP := Lib.hid hs
  obtain ⟨g, o, rfl, l1, hc⟩ := hs (by decide)
  have hc0 := hc 0 (by decide)
  rw [Nat.zero_mul, Nat.add_zero] at hc0
  have b13 : w1.cell? ⟨g, o + 13, none⟩ = some (.int .i64 (-1)) := hc0.c13
  have b4 : w1.cell? ⟨g, o + 4, none⟩ = some (.bool false) := hc0.c4
  have b5 : w1.cell? ⟨g, o + 5, none⟩ = some (.string ⟨#[7]⟩) := hc0.c5
  have b6 : w1.cell? ⟨g, o + 6, none⟩ = some (.string ⟨#[2]⟩) := hc0.c6
  clear hs hc hc0
  have hcap : (1 : Nat) ≤ cap := h1
  have HG1 := Lib.hid (HGL.out.keep0 c1)
  go_wp2_with fail
  have cd : Chg [] w1 w1.drew := (Chg.refl _ _).drew
  have hcd := c1.then cd
  have HS2 := Lib.hid (HSP.out.keep0 cd)
  have HG2 := Lib.hid (HG1.out.keep0 cd)
  obtain ⟨p, HPP⟩ := name_it awP
  have hcp : CPf w1.drew g o p := by
    have := HS2.out.at_ (j := 0) (by decide)
    rw [Nat.zero_mul, Nat.add_zero] at this
    rw [← HPP.out]; exact this
  have HCP := Lib.hid hcp
  clear hcp b13 b4 b5 b6 cd
  have e13 : ∀ W, CPf W g o p → W.cell? ⟨g, o + 13, none⟩ = some (.int .i64 (-1)) := by intro W h; have := h.c13; rw [← HPP.out] at this; exact this
  have e4 : ∀ W, CPf W g o p → W.cell? ⟨g, o + 4, none⟩ = some (.bool false) := by intro W h; have := h.c4; rw [← HPP.out] at this; exact this
  have e5 : ∀ W, CPf W g o p → W.cell? ⟨g, o + 5, none⟩ = some (.string ⟨#[7]⟩) := by intro W h; have := h.c5; rw [← HPP.out] at this; exact this
  have e6 : ∀ W, CPf W g o p → W.cell? ⟨g, o + 6, none⟩ = some (.string ⟨#[2]⟩) := by intro W h; have := h.c6; rw [← HPP.out] at this; exact this
  have E13 := Lib.hid e13
  have E4 := Lib.hid e4
  have E5 := Lib.hid e5
  have E6 := Lib.hid e6
  clear e13 e4 e5 e6
  go_region_held3 (fun w' => w'.cell? ⟨g, o + 13, none⟩ = some (.int .i64 (-1)) ∧ w'.cell? ⟨g, o + 4, none⟩ = some (.bool false) ∧ w'.cell? ⟨g, o + 5, none⟩ = some (.string ⟨#[7]⟩) ∧ w'.cell? ⟨g, o + 6, none⟩ = some (.string ⟨#[2]⟩)) (first | exact ⟨E13.out _ HCP.out, E4.out _ HCP.out, E5.out _ HCP.out, E6.out _ HCP.out⟩) (first
    | (go_at_call 25
       refine (ratio_any 7 2 _ (by decide) (by decide) (by decide) (by decide)).mono ?_
       rintro e w2 ⟨z, rfl, hz, c2⟩
       obtain rfl : z = ⟨false, ⟨#[7]⟩, ⟨#[2]⟩⟩ := (Enc_qc hz.enc).trans aw_qc.symm
       clear hz
       replace HCP := Lib.hid (HCP.out.keep0 c2)
       have HS3 := Lib.hid (HS2.out.keep0 c2)
       have HG3 := Lib.hid (HG2.out.keep0 c2)
       have hc3 := hcd.then c2)
    | fail)
  go_wp2_with fail
  refine (pFormat_any [awP] (some ⟨g, o, none⟩) 1 cap _ HG3.out rfl (by omega) hcap h2 HS3.out aw_docs).mono ?_
  rintro e w4 ⟨he, c4⟩
  rw [aw_fmtE, aw_fmtT, ba_eta] at he
  subst he
  have hc4 := hc3.then c4
  go_wp2_with fail
  go_ret
  exact ⟨ret_eq (by first | rfl | simp [awS]), hc4⟩
end Go.Proofs.YtogciehmdlfkfaaGreatDoor

/- Part DL1. -/

namespace Go.Proofs.YtogciehmdlfkfaaGreatDoor
open Go.RowKit Nd

set_option maxRecDepth 20000 in
theorem lpname_any (s : ByteArray) (w : World) (hgl : Gl w) :
    Calls Tryz.prog 3 #[.string s] w fun e w' => e = .returned (.bool true) ∧ Chg [] w w' := by
  have HGL := Lib.hid hgl
  clear hgl
  by_cases h : 100 < s.size
  · have d1 : decide ((100 : Int) < (s.size : Int)) = true := by simp; omega
    clear h
    go_enter Tryz.func3, Tryz.ntmps3
    go_wp2_with (go_at_call 11; refine (awake9_any _ HGL.out).mono ?_; rintro e w3 ⟨rfl, c3⟩)
    go_ret
    exact ⟨rfl, c3⟩
  · have d1 : decide ((100 : Int) < (s.size : Int)) = false := by simp; omega
    have HZ : Hid (s.size ≤ 100) := Lib.hid (by omega)
    clear h
    obtain ⟨b, HB⟩ := name_it (nameB s)
    go_enter Tryz.func3, Tryz.ntmps3
    go_wp2_with (first
      | (go_at_call 11; refine (awake9_any _ HGL.out).mono ?_; rintro e w3 ⟨rfl, c3⟩)
      | (go_at_call 12; refine (isName_any s _).mono ?_; rintro e w4 ⟨rfl, c4⟩; rw [HB.out])
      | (go_at_call 13; refine (rIsName_any s _ (by have := HZ.out; omega)).mono ?_; rintro e w5 ⟨rfl, rfl⟩; rw [HB.out])
      | fail)
    go_ret
    exact ⟨ret_eq (by first | rfl | simp), c3.then c4⟩
end Go.Proofs.YtogciehmdlfkfaaGreatDoor

/- Part DL2. -/

namespace Go.Proofs.YtogciehmdlfkfaaGreatDoor
open Go.RowKit Nd

def shortP (p : Pf) : Bool := shortQ p.am && (shortQ p.rt && (decide (p.id.size ≤ 60) && decide (p.cd.size ≤ 20)))
def fewD (l : List Pf) : Bool := decide (l.length ≤ 6) && l.all shortP
theorem short_fit {p : Pf} (h : shortP p = true) : FitP p ∧ small p.id ∧ small p.cd := by
  unfold shortP shortQ at h
  simp only [Bool.and_eq_true, decide_eq_true_eq] at h
  obtain ⟨⟨h1, h2⟩, ⟨h3, h4⟩, h5, h6⟩ := h
  exact ⟨⟨⟨by omega, by omega⟩, ⟨by omega, by omega⟩⟩, show _ ≤ _ by omega, show _ ≤ _ by omega⟩
set_option maxRecDepth 20000 in
set_option maxHeartbeats 8000000 in
theorem few9_any (xs : List Pf) (A : Option Addr) (n c : Nat) (w : World) (hn : xs.length = n) (hx : SPf w A xs) :
    Calls Tryz.prog 14 #[.slice A n c] w fun e w' => e = .returned (.bool (fewD xs)) ∧ Chg [] w w' := by
  obtain ⟨R, HR⟩ := name_it (fewD xs)
  have HRR : Hid (R = fewD xs) := HR.out.symm
  rw [HR.out]
  unfold fewD at HRR
  have HN := Lib.hid hn
  rw [hn] at HRR
  clear hn HR
  by_cases h6 : 6 < n
  · have d1 : decide (6 < (n : Int)) = true := by simp; omega
    have hR : Hid (R = false) := by show _ = _; rw [HRR.out, decide_eq_false (by omega)]; rfl
    clear HRR hx h6
    go_enter Tryz.func14, Tryz.ntmps14
    go_wp2
    go_ret
    exact ⟨ret_eq (by rw [hR.out]; rfl), Chg.refl _ _⟩
  · have d1 : decide (6 < (n : Int)) = false := by simp; omega
    have hR : Hid (R = xs.all shortP) := by show _ = _; rw [HRR.out, decide_eq_true (by omega), Bool.true_and]
    have h6' : n ≤ 6 := by omega
    clear HRR h6
    go_enter Tryz.func14, Tryz.ntmps14
    go_wp2
    clear d1
    go_loopw [10] (fun iv wr => ∃ i : Nat, i ≤ n ∧ iv = .int .i64 i ∧ (∀ j, j < i → shortP (xs.getD j pf0) = true) ∧ SPf wr A xs ∧ Chg [] w wr) (fun iv _ => n - (intOf iv).toNat)
    case atStart => exact ⟨0, by omega, rfl, fun j hj => absurd hj (by omega), hx, Chg.refl _ _⟩
    case round =>
      obtain ⟨i, hi, rfl, hall, hxr, hch⟩ := hrel
      have HL := Lib.hid hall
      clear hall hx
      by_cases hlt : i < n
      · obtain ⟨p, HP⟩ := name_it (xs.getD i pf0)
        have HX1 := Lib.hid hxr
        have HBAD : Hid (shortP p = false → R = false) := by
          show _ → _
          intro h
          rw [hR.out, List.all_eq_false]
          exact ⟨p, by rw [← HP.out]; exact memPf (by rw [HN.out]; exact hlt), by simp [h]⟩
        have HGOOD : Hid (shortP p = true → ∀ j, j < i + 1 → shortP (xs.getD j pf0) = true) := by
          show _ → _
          intro h j hj
          by_cases hji : j = i
          · rw [hji, HP.out]; exact h
          · exact HL.out j (by omega)
        obtain ⟨g, o, rfl, l1, k1⟩ := hxr (by rw [HN.out]; omega)
        have hcc := k1 i (by rw [HN.out]; omega)
        rw [HP.out] at hcc
        obtain ⟨y0, y1, y2, y3, y4, y5, y6, y7, y8, y9, y10, y11, y12, y13, _⟩ := hcc
        have b := BlkPf.alloc wr (.string p.id) (.int .i64 p.es) (.int .i64 p.cr) (.string p.cd) (.bool p.am.neg) (.string p.am.num) (.string p.am.den) (.int .i64 p.inc) (.int .i64 p.rk) (.bool p.rt.neg) (.string p.rt.num) (.string p.rt.den) (.int .i64 p.rf) (.int .i64 p.sec) 27
        have c1 : Chg [] wr (wr.alloc (.cells #[.string p.id, .int .i64 p.es, .int .i64 p.cr, .string p.cd, .bool p.am.neg, .string p.am.num, .string p.am.den, .int .i64 p.inc, .int .i64 p.rk, .bool p.rt.neg, .string p.rt.num, .string p.rt.den, .int .i64 p.rf, .int .i64 p.sec] 27)) := (Chg.refl _ _).alloc _
        have HX2 := Lib.hid (HX1.out.keep0 c1)
        have hc2 := hch.then c1
        clear k1 c1 HX1 HL
        have k0 := b.c0
        have k1 := b.c1
        have k2 := b.c2
        have k3 := b.c3
        have k4 := b.c4
        have k5 := b.c5
        have k6 := b.c6
        have k7 := b.c7
        have k8 := b.c8
        have k9 := b.c9
        have k10 := b.c10
        have k11 := b.c11
        have k12 := b.c12
        have k13 := b.c13
        have kl := b.lt
        obtain ⟨a, HA⟩ := name_it (shortQ p.am)
        obtain ⟨q, HQ⟩ := name_it (shortQ p.rt)
        cases a with
        | false =>
          have HS : Hid (R = false) := Lib.hid (HBAD.out (by unfold shortP; rw [HA.out]; rfl))
          go_wp2_with (first
            | (go_at_call 29; refine (Few_any _ _).mono ?_; rintro e w5 ⟨rfl, c5⟩; (first | rw [HA.out] | rw [HQ.out]); replace b := b.keep0 c5; replace HX2 := Lib.hid (HX2.out.keep0 c5); replace hc2 := hc2.then c5; clear c5; have k0 := b.c0; have k1 := b.c1; have k2 := b.c2; have k3 := b.c3; have k4 := b.c4; have k5 := b.c5; have k6 := b.c6; have k7 := b.c7; have k8 := b.c8; have k9 := b.c9; have k10 := b.c10; have k11 := b.c11; have k12 := b.c12; have k13 := b.c13; have kl := b.lt)
            | fail)
          go_ret
          exact ⟨ret_eq (by rw [HS.out]; rfl), hc2⟩
        | true =>
          cases q with
          | false =>
            have HS : Hid (R = false) := Lib.hid (HBAD.out (by unfold shortP; rw [HA.out, HQ.out]; rfl))
            go_wp2_with (first
              | (go_at_call 29; refine (Few_any _ _).mono ?_; rintro e w5 ⟨rfl, c5⟩; (first | rw [HA.out] | rw [HQ.out]); replace b := b.keep0 c5; replace HX2 := Lib.hid (HX2.out.keep0 c5); replace hc2 := hc2.then c5; clear c5; have k0 := b.c0; have k1 := b.c1; have k2 := b.c2; have k3 := b.c3; have k4 := b.c4; have k5 := b.c5; have k6 := b.c6; have k7 := b.c7; have k8 := b.c8; have k9 := b.c9; have k10 := b.c10; have k11 := b.c11; have k12 := b.c12; have k13 := b.c13; have kl := b.lt)
              | fail)
            go_ret
            exact ⟨ret_eq (by rw [HS.out]; rfl), hc2⟩
          | true =>
            by_cases z1 : p.id.size ≤ 60
            · have e1 : decide (60 < (p.id.size : Int)) = false := by simp; omega
              by_cases z2 : p.cd.size ≤ 20
              · have e2 : decide (20 < (p.cd.size : Int)) = false := by simp; omega
                have HS : Hid (∀ j, j < i + 1 → shortP (xs.getD j pf0) = true) := Lib.hid (HGOOD.out (by unfold shortP; rw [HA.out, HQ.out, decide_eq_true z1, decide_eq_true z2]; rfl))
                clear z1 z2
                go_wp2_with (first
                  | (go_at_call 29; refine (Few_any _ _).mono ?_; rintro e w5 ⟨rfl, c5⟩; (first | rw [HA.out] | rw [HQ.out]); replace b := b.keep0 c5; replace HX2 := Lib.hid (HX2.out.keep0 c5); replace hc2 := hc2.then c5; clear c5; have k0 := b.c0; have k1 := b.c1; have k2 := b.c2; have k3 := b.c3; have k4 := b.c4; have k5 := b.c5; have k6 := b.c6; have k7 := b.c7; have k8 := b.c8; have k9 := b.c9; have k10 := b.c10; have k11 := b.c11; have k12 := b.c12; have k13 := b.c13; have kl := b.lt)
                  | fail)
                go_roundw
                case rel => exact ⟨i + 1, by omega, by go_num, HS.out, HX2.out, hc2⟩
                case measure => simp [intOf]; omega
              · have e2 : decide (20 < (p.cd.size : Int)) = true := by simp; omega
                have HS : Hid (R = false) := Lib.hid (HBAD.out (by unfold shortP; rw [HA.out, HQ.out, decide_eq_true z1, decide_eq_false z2]; rfl))
                clear z1 z2
                go_wp2_with (first
                  | (go_at_call 29; refine (Few_any _ _).mono ?_; rintro e w5 ⟨rfl, c5⟩; (first | rw [HA.out] | rw [HQ.out]); replace b := b.keep0 c5; replace HX2 := Lib.hid (HX2.out.keep0 c5); replace hc2 := hc2.then c5; clear c5; have k0 := b.c0; have k1 := b.c1; have k2 := b.c2; have k3 := b.c3; have k4 := b.c4; have k5 := b.c5; have k6 := b.c6; have k7 := b.c7; have k8 := b.c8; have k9 := b.c9; have k10 := b.c10; have k11 := b.c11; have k12 := b.c12; have k13 := b.c13; have kl := b.lt)
                  | fail)
                go_ret
                exact ⟨ret_eq (by rw [HS.out]; rfl), hc2⟩
            · have e1 : decide (60 < (p.id.size : Int)) = true := by simp; omega
              have HS : Hid (R = false) := Lib.hid (HBAD.out (by unfold shortP; rw [HA.out, HQ.out, decide_eq_false z1]; rfl))
              clear z1
              go_wp2_with (first
                | (go_at_call 29; refine (Few_any _ _).mono ?_; rintro e w5 ⟨rfl, c5⟩; (first | rw [HA.out] | rw [HQ.out]); replace b := b.keep0 c5; replace HX2 := Lib.hid (HX2.out.keep0 c5); replace hc2 := hc2.then c5; clear c5; have k0 := b.c0; have k1 := b.c1; have k2 := b.c2; have k3 := b.c3; have k4 := b.c4; have k5 := b.c5; have k6 := b.c6; have k7 := b.c7; have k8 := b.c8; have k9 := b.c9; have k10 := b.c10; have k11 := b.c11; have k12 := b.c12; have k13 := b.c13; have kl := b.lt)
                | fail)
              go_ret
              exact ⟨ret_eq (by rw [HS.out]; rfl), hc2⟩
      · have hq : Hid (R = true) := by
          show _ = _
          rw [hR.out, List.all_eq_true]
          intro p hp
          obtain ⟨j, hj, rfl⟩ := List.getElem_of_mem hp
          have := HL.out j (by rw [HN.out] at hj; omega)
          rwa [List.getD_eq_getElem?_getD, List.getElem?_eq_getElem hj, Option.getD_some] at this
        have dl : decide ((i : Int) < (n : Int)) = false := by simp; omega
        go_wp2
        go_ret
        exact ⟨ret_eq (by rw [hq.out]; rfl), hch⟩
theorem fewD_one (p : Pf) : fewD [p] = shortP p := by unfold fewD; simp
set_option maxRecDepth 20000 in
set_option maxHeartbeats 8000000 in
theorem lpcheckD_any (p : Pf) (w : World) (hgl : Gl w) :
    Calls Tryz.prog 4 #[.agg #[.string p.id, .int .i64 p.es, .int .i64 p.cr, .string p.cd, .bool p.am.neg, .string p.am.num, .string p.am.den, .int .i64 p.inc, .int .i64 p.rk, .bool p.rt.neg, .string p.rt.num, .string p.rt.den, .int .i64 p.rf, .int .i64 p.sec]] w fun e w' => e = .returned (.bool true) ∧ Chg [] w w' := by
  have b := BlkPf.alloc w (.string p.id) (.int .i64 p.es) (.int .i64 p.cr) (.string p.cd) (.bool p.am.neg) (.string p.am.num) (.string p.am.den) (.int .i64 p.inc) (.int .i64 p.rk) (.bool p.rt.neg) (.string p.rt.num) (.string p.rt.den) (.int .i64 p.rf) (.int .i64 p.sec) 27
  have hch : Chg [] w (w.alloc (.cells #[.string p.id, .int .i64 p.es, .int .i64 p.cr, .string p.cd, .bool p.am.neg, .string p.am.num, .string p.am.den, .int .i64 p.inc, .int .i64 p.rk, .bool p.rt.neg, .string p.rt.num, .string p.rt.den, .int .i64 p.rf, .int .i64 p.sec] 27)) := (Chg.refl _ _).alloc _
  have HGL := Lib.hid (hgl.keep0 hch)
  clear hgl
  obtain ⟨f, HF⟩ := name_it (shortP p)
  have k0 := b.c0
  have k1 := b.c1
  have k2 := b.c2
  have k3 := b.c3
  have k4 := b.c4
  have k5 := b.c5
  have k6 := b.c6
  have k7 := b.c7
  have k8 := b.c8
  have k9 := b.c9
  have k10 := b.c10
  have k11 := b.c11
  have k12 := b.c12
  have k13 := b.c13
  have kl := b.lt
  go_enter Tryz.func4, Tryz.ntmps4
  go_wp2_with fail
  clear k0 k1 k2 k3 k4 k5 k6 k7 k8 k9 k10 k11 k12 k13 kl
  obtain ⟨g, HG⟩ := name_it w.heap.size
  rw [HG.out] at b ⊢
  obtain ⟨w0, HW0⟩ := name_it (w.alloc (.cells #[.string p.id, .int .i64 p.es, .int .i64 p.cr, .string p.cd, .bool p.am.neg, .string p.am.num, .string p.am.den, .int .i64 p.inc, .int .i64 p.rk, .bool p.rt.neg, .string p.rt.num, .string p.rt.den, .int .i64 p.rf, .int .i64 p.sec] 27))
  rw [HW0.out] at b hch HGL ⊢
  have ca : Chg [] w0 (w0.alloc (.cells #[.string p.id, .int .i64 p.es, .int .i64 p.cr, .string p.cd, .bool p.am.neg, .string p.am.num, .string p.am.den, .int .i64 p.inc, .int .i64 p.rk, .bool p.rt.neg, .string p.rt.num, .string p.rt.den, .int .i64 p.rf, .int .i64 p.sec] 27)) := (Chg.refl _ _).alloc _
  have hz : w0.heap.size = g + 1 := by rw [← HW0.out, ← HG.out]; simp
  have hsn := sPf_new w0 p
  rw [hz] at hsn
  refine (few9_any [p] (some ⟨g + 1, 0, none⟩) 1 1 _ rfl hsn).mono ?_
  rintro e w1 ⟨rfl, c1⟩
  rw [fewD_one, HF.out]
  replace b := (b.keep0 ca).keep0 c1
  replace HGL := Lib.hid ((HGL.out.keep0 ca).keep0 c1)
  replace hch := (hch.then ca).then c1
  clear ca c1 hz hsn
  cases f with
  | false =>
    go_wp2_with (go_at_call 11; refine (awake9_any _ HGL.out).mono ?_; rintro e w3 ⟨rfl, c3⟩)
    go_ret
    exact ⟨rfl, hch.then c3⟩
  | true =>
    have HS := Lib.hid (short_fit HF.out)
    obtain ⟨E, HE⟩ := name_it (chkE p)
    have HAW : Hid (∀ W, Gl W → Calls Tryz.prog 11 #[] W fun e w' => e = .returned (.bool true) ∧ Chg [] W w') := by
      show ∀ _, _
      intro W hW; exact awake9_any W hW
    have HCK : Hid (∀ W, Calls Tryz.prog 15 #[.agg #[.string p.id, .int .i64 p.es, .int .i64 p.cr, .string p.cd, .bool p.am.neg, .string p.am.num, .string p.am.den, .int .i64 p.inc, .int .i64 p.rk, .bool p.rt.neg, .string p.rt.num, .string p.rt.den, .int .i64 p.rf, .int .i64 p.sec]] W fun e w' => e = .returned (.int .i64 E) ∧ Chg [] W w') := by
      show ∀ _, _
      intro W; rw [← HE.out]; exact Check_any p W HS.out.1
    have HRC : Hid (∀ W, Calls Tryz.prog 16 #[.agg #[.string p.id, .int .i64 p.es, .int .i64 p.cr, .string p.cd, .bool p.am.neg, .string p.am.num, .string p.am.den, .int .i64 p.inc, .int .i64 p.rk, .bool p.rt.neg, .string p.rt.num, .string p.rt.den, .int .i64 p.rf, .int .i64 p.sec]] W fun e w' => e = .returned (.int .i64 E) ∧ Chg [] W w') := by
      show ∀ _, _
      intro W; rw [← HE.out]; exact rCheck_any p W HS.out.1 HS.out.2.1 HS.out.2.2
    go_wp2_with fail
    have c8 : Chg [] w1 w1.drew := (Chg.refl _ _).drew
    replace b := b.keep0 c8
    replace hch := hch.then c8
    clear c8
    have hcz := hch
    have hgl := HGL.out.keep0 (Chg.refl [] w1).drew
    clear hch HGL HS HE
    refine wp_region_held_drew (S := (fun w' => w'.cell? ⟨g, 0, none⟩ = some (.string p.id) ∧ w'.cell? ⟨g, 1, none⟩ = some (.int .i64 p.es) ∧ w'.cell? ⟨g, 2, none⟩ = some (.int .i64 p.cr) ∧ w'.cell? ⟨g, 3, none⟩ = some (.string p.cd) ∧ w'.cell? ⟨g, 4, none⟩ = some (.bool p.am.neg) ∧ w'.cell? ⟨g, 5, none⟩ = some (.string p.am.num) ∧ w'.cell? ⟨g, 6, none⟩ = some (.string p.am.den) ∧ w'.cell? ⟨g, 7, none⟩ = some (.int .i64 p.inc) ∧ w'.cell? ⟨g, 8, none⟩ = some (.int .i64 p.rk) ∧ w'.cell? ⟨g, 9, none⟩ = some (.bool p.rt.neg) ∧ w'.cell? ⟨g, 10, none⟩ = some (.string p.rt.num) ∧ w'.cell? ⟨g, 11, none⟩ = some (.string p.rt.den) ∧ w'.cell? ⟨g, 12, none⟩ = some (.int .i64 p.rf) ∧ w'.cell? ⟨g, 13, none⟩ = some (.int .i64 p.sec))) (by kernel_rfl) ?_ (fun hHeld => ?_)
    · exact ⟨b.c0, b.c1, b.c2, b.c3, b.c4, b.c5, b.c6, b.c7, b.c8, b.c9, b.c10, b.c11, b.c12, b.c13⟩
    obtain ⟨wz, HWz⟩ := name_it w1.drew
    rw [HWz.out] at b hgl hcz hHeld ⊢
    refine wpAnyH_ready (rs := [0]) (by kernel_rfl) (by simp) ?_
    refine AllReadyH.cons (o := _) rfl (fun K' hK => ?_) AllReadyH.nil
    go_simp
    refine (HAW.out _ hgl).mono ?_
    rintro e9 wl1 ⟨rfl, c6⟩
    replace b := b.keep0 c6
    replace hgl := hgl.keep0 c6
    replace hcz := hcz.then c6
    clear c6
    go_wp2_with fail
    refine hK.out _ _ ?_ (fun hHeld => ?_)
    · exact ⟨b.c0, b.c1, b.c2, b.c3, b.c4, b.c5, b.c6, b.c7, b.c8, b.c9, b.c10, b.c11, b.c12, b.c13⟩
    clear hK K'
    try simp only [Act.put, List.setIfInBounds_toArray, List.set_cons_zero, List.set_cons_succ]
    refine wpAnyH_take (i := 1) (v := ?_) rfl (by kernel_rfl) (by kernel_rfl) (by kernel_rfl) (fun _ _ _ h => h) (Or.inl ⟨by rfl, ?_⟩) (by assumption) ?_
    rotate_left 1
    · intro w hSw
      try dsimp only at hSw
      go_simp
      try with_reducible rfl
    try simp only [List.getElem_toArray, List.getElem_cons_succ, List.getElem_cons_zero]
    try simp only [Act.put, List.setIfInBounds_toArray, List.set_cons_zero, List.set_cons_succ]
    refine wpAnyH_take (i := 2) (v := ?_) rfl (by kernel_rfl) (by kernel_rfl) (by kernel_rfl) (fun _ _ _ h => h) (Or.inl ⟨by rfl, ?_⟩) (by assumption) ?_
    rotate_left 1
    · intro w hSw
      try dsimp only at hSw
      go_simp
      try with_reducible rfl
    try simp only [List.getElem_toArray, List.getElem_cons_succ, List.getElem_cons_zero]
    try simp only [Act.put, List.setIfInBounds_toArray, List.set_cons_zero, List.set_cons_succ]
    refine wpAnyH_take (i := 4) (v := ?_) rfl (by kernel_rfl) (by kernel_rfl) (by kernel_rfl) (fun _ _ _ h => h) (Or.inl ⟨by rfl, ?_⟩) (by assumption) ?_
    rotate_left 1
    · intro w hSw
      try dsimp only at hSw
      go_simp
      try with_reducible rfl
    try simp only [List.getElem_toArray, List.getElem_cons_succ, List.getElem_cons_zero]
    try simp only [Act.put, List.setIfInBounds_toArray, List.set_cons_zero, List.set_cons_succ]
    refine wpAnyH_ready (rs := [3]) (by kernel_rfl) (by simp) ?_
    refine AllReadyH.cons (o := _) rfl (fun K' hK => ?_) AllReadyH.nil
    go_simp
    refine (HCK.out _).mono ?_
    rintro e9 wl2 ⟨rfl, c6⟩
    replace b := b.keep0 c6
    replace hgl := hgl.keep0 c6
    replace hcz := hcz.then c6
    clear c6
    go_wp2_with fail
    refine hK.out _ _ ?_ (fun hHeld => ?_)
    · exact ⟨b.c0, b.c1, b.c2, b.c3, b.c4, b.c5, b.c6, b.c7, b.c8, b.c9, b.c10, b.c11, b.c12, b.c13⟩
    clear hK K'
    try simp only [Act.put, List.setIfInBounds_toArray, List.set_cons_zero, List.set_cons_succ]
    refine wpAnyH_ready (rs := [5]) (by kernel_rfl) (by simp) ?_
    refine AllReadyH.cons (o := _) rfl (fun K' hK => ?_) AllReadyH.nil
    go_simp
    refine (HRC.out _).mono ?_
    rintro e9 wl3 ⟨rfl, c6⟩
    replace b := b.keep0 c6
    replace hgl := hgl.keep0 c6
    replace hcz := hcz.then c6
    clear c6
    go_wp2_with fail
    refine hK.out _ _ ?_ (fun hHeld => ?_)
    · exact ⟨b.c0, b.c1, b.c2, b.c3, b.c4, b.c5, b.c6, b.c7, b.c8, b.c9, b.c10, b.c11, b.c12, b.c13⟩
    clear hK K'
    try simp only [Act.put, List.setIfInBounds_toArray, List.set_cons_zero, List.set_cons_succ]
    refine wpAnyH_take (i := 6) (v := ?_) rfl (by kernel_rfl) (by kernel_rfl) (by kernel_rfl) (fun _ _ _ h => h) (Or.inl ⟨by rfl, ?_⟩) (by assumption) ?_
    rotate_left 1
    · intro w hSw
      try dsimp only at hSw
      go_simp
      try with_reducible rfl
    try simp only [List.getElem_toArray, List.getElem_cons_succ, List.getElem_cons_zero]
    try simp only [Act.put, List.setIfInBounds_toArray, List.set_cons_zero, List.set_cons_succ]
    refine wpAnyH_take (i := 7) (v := ?_) rfl (by kernel_rfl) (by kernel_rfl) (by kernel_rfl) (fun _ _ _ h => h) (Or.inl ⟨by rfl, ?_⟩) (by assumption) ?_
    rotate_left 1
    · intro w hSw
      try dsimp only at hSw
      go_simp
      try with_reducible rfl
    try simp only [List.getElem_toArray, List.getElem_cons_succ, List.getElem_cons_zero]
    try simp only [Act.put, List.setIfInBounds_toArray, List.set_cons_zero, List.set_cons_succ]
    refine wpAnyH_take (i := 8) (v := ?_) rfl (by kernel_rfl) (by kernel_rfl) (by kernel_rfl) (fun _ _ _ h => h) (Or.inl ⟨by rfl, ?_⟩) (by assumption) ?_
    rotate_left 1
    · intro w hSw
      try dsimp only at hSw
      go_simp
      try with_reducible rfl
    try simp only [List.getElem_toArray, List.getElem_cons_succ, List.getElem_cons_zero]
    try simp only [Act.put, List.setIfInBounds_toArray, List.set_cons_zero, List.set_cons_succ]
    refine wpAnyH_done (by kernel_rfl) ?_ _
    go_wp2_with fail
    go_ret
    exact ⟨ret_eq (by first | rfl | simp), hcz⟩
end Go.Proofs.YtogciehmdlfkfaaGreatDoor
