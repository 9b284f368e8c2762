/-
  Walks: estimate (whole), divideStep.
-/
import Derived.Test.YtjmonodjnljhdaaDoorW8
namespace Go.Proofs.YtjmonodjnljhdaaDoor
open Go.RowKit Nd

theorem estimate_any (gu o cu cu' gv cv m : Nat) (U V : List Nat) (w : World) (hU : Row 77 .u32 w gu cu U) (hV : Row 77 .u32 w gv cv V) (dU : dig 4294967296 U) (dV : dig 4294967296 V) (nV : noz V)
    (hm : V.length = m) (hm0 : 1 ≤ m) (hmb : m ≤ 1099511627776) (hou : o + m < U.length) (hlt : win 4294967296 U o (m + 1) < lv 4294967296 V * 4294967296) :
    Calls Tryd.prog 93 #[.slice (some ⟨gu, o, none⟩) (m + 1) cu', .slice (some ⟨gv, 0, none⟩) m cv] w fun e w' => ∃ q n : Nat, e = .returned (.int .u32 q) ∧ q < 4294967296 ∧ win 4294967296 U o (m + 1) / lv 4294967296 V ≤ q ∧ w' = w.drewN n := by
  have htop := top_le (by omega) dV hm hm0 hlt
  have hlast := noz_last nV hm hm0
  have b1 := fun k => dig_getD (by omega) dU k
  have b2 := fun k => dig_getD (by omega) dV k
  by_cases h1 : m = 1
  · subst h1
    have c0 := hU.cell (o + 1) (by omega)
    have c1 := hU.cell o (by omega)
    have c2 := hV.cell 0 (by omega)
    have hv : lv 4294967296 V = V.getD 0 0 := lv_one _ V hm
    rw [hv, win_top2] at hlt
    rw [hv, win_top2]
    rw [show 1 - 1 = 0 from rfl] at htop hlast
    have ha := b1 (o + 1)
    have hb := b1 o
    have hd := b2 0
    generalize U.getD (o + 1) 0 = a at *
    generalize U.getD o 0 = b at *
    generalize V.getD 0 0 = d at *
    refine (estimate_one gu o cu' gv cv a b d w c0 c1 c2 htop hb hd hlast).mono ?_
    rintro e w' ⟨s, n, rfl, hs, hsd, rfl⟩
    exact ⟨_, n, rfl, min_lt _, est_one a b d s htop hb hlast hs hsd hlt, rfl⟩
  · obtain ⟨k, rfl⟩ : ∃ k, m = k + 2 := ⟨m - 2, by omega⟩
    have c0 := hU.cell (o + (k + 2)) (by omega)
    have c1 := hU.cell (o + (k + 1)) (by omega)
    have c2 := hU.cell (o + k) (by omega)
    have c3 := hV.cell (k + 1) (by omega)
    have c4 := hV.cell k (by omega)
    have e1 : k + 2 - 1 = k + 1 := by omega
    rw [e1] at htop hlast
    have EL := fun s => @est_list U V o k s dU dV nV hm hlt
    have a1 := b1 (o + (k + 2))
    have a2 := b1 (o + (k + 1))
    have a3 := b1 (o + k)
    have a4 := b2 (k + 1)
    have a5 := b2 k
    have hlt2 : win 4294967296 U o (k + 2 + 1) = win 4294967296 U o (k + 3) := rfl
    rw [hlt2]
    clear hlt hlt2
    generalize win 4294967296 U o (k + 3) = uu at *
    generalize lv 4294967296 V = vv at *
    generalize U.getD (o + (k + 2)) 0 = a at *
    generalize U.getD (o + (k + 1)) 0 = b at *
    generalize U.getD (o + k) 0 = c at *
    generalize V.getD (k + 1) 0 = d at *
    generalize V.getD k 0 = f at *
    refine (estimate_long gu o cu' gv cv (k + 2) a b c d f w (by omega) hmb c0 c1 c2 c3 c4 htop a2 a3 a4 hlast a5).mono ?_
    rintro e w' ⟨s, n, rfl, hs, hsd, rfl⟩
    exact ⟨_, n, rfl, min_lt _, EL s hs hsd, rfl⟩

theorem quo_eq {U V k : Nat} (hV : 0 < V) (h1 : U / V ≤ k) (h2 : k * V ≤ U) : k = U / V := Nat.le_antisymm ((Nat.le_div_iff_mul_le hV).2 h2) h1
theorem quo_less {U V k : Nat} (hV : 0 < V) (h2 : U < k * V) : U / V < k := (Nat.div_lt_iff_lt_mul hV).2 h2

set_option maxRecDepth 20000 in
set_option maxHeartbeats 800000 in
theorem divideStep_any (gu o cu cu' gv cv m : Nat) (U V : List Nat) (w : World) (hU : Row 77 .u32 w gu cu U) (hV : Row 77 .u32 w gv cv V) (hne : gv ≠ gu) (dU : dig 4294967296 U) (dV : dig 4294967296 V) (nV : noz V)
    (hm : V.length = m) (hm0 : 1 ≤ m) (hmb : m ≤ 1099511627776) (hou : o + m < U.length) (hlt : win 4294967296 U o (m + 1) < lv 4294967296 V * 4294967296) :
    Calls Tryd.prog 73 #[.slice (some ⟨gu, o, none⟩) (m + 1) cu', .slice (some ⟨gv, 0, none⟩) m cv] w fun e w' => ∃ (q : Nat) (L : List Nat), e = .returned (.int .u32 q) ∧ q < 4294967296 ∧ q = win 4294967296 U o (m + 1) / lv 4294967296 V ∧
      Row 77 .u32 w' gu cu L ∧ Row 77 .u32 w' gv cv V ∧ Chg [gu] w w' ∧ L.length = U.length ∧ dig 4294967296 L ∧ (∀ j, (j < o ∨ o + (m + 1) ≤ j) → L.getD j 0 = U.getD j 0) ∧
      win 4294967296 L o (m + 1) = win 4294967296 U o (m + 1) % lv 4294967296 V := by
  have hV0 : 0 < lv 4294967296 V := lv_pos (by omega) nV (by rintro rfl; simp at hm; omega)
  have HM := Lib.hid hm
  have HLT := Lib.hid hlt
  obtain ⟨vv, HVV⟩ := name_it (lv 4294967296 V)
  obtain ⟨uu, HUU⟩ := name_it (win 4294967296 U o (m + 1))
  obtain ⟨q0, HQ0⟩ := name_it (uu / vv)
  obtain ⟨PP, HPP⟩ := name_it (4294967296 ^ (m + 1))
  go_enter Tryd.func73, Tryd.ntmps73
  go_wp2_with fail
  refine (estimate_any gu o cu cu' gv cv m U V w hU hV dU dV nV hm hm0 hmb hou hlt).mono ?_
  rintro e w1 ⟨q, n, rfl, hq, hge, rfl⟩
  have c1 : Chg [gu] w (w.drewN n) := (Chg.refl _ _).drewN n
  have hU1 : Row 77 .u32 (w.drewN n) gu cu U := hU
  have hV1 : Row 77 .u32 (w.drewN n) gv cv V := hV
  obtain ⟨w1, HW⟩ := name_it (w.drewN n)
  rw [HW.out] at c1 hU1 hV1 ⊢
  rw [HVV.out] at hV0
  rw [HUU.out, HVV.out, HQ0.out] at hge
  have HGE := Lib.hid hge
  clear hge hm hlt hU hV
  go_wp2_with fail
  refine (subM_any gu o cu cu' gv cv q m U V w1 hU1 hV1 hne dU dV HM.out hmb hou hq).mono ?_
  rintro e w2 ⟨neg, L, rfl, hL2, hV2, c2, lL, dL, oL, vL⟩
  rw [HUU.out, HVV.out, HPP.out] at vL
  have HL1 := Lib.hid lL
  have HL2 := Lib.hid oL
  have HL3 := Lib.hid vL
  have c3 := c1.same c2
  clear lL oL vL hU1 hV1 c1 c2
  go_wp2_with fail
  go_loopw [5, 6] (fun qv nv wr => ∃ (k : Nat) (neg : Bool) (L : List Nat), qv = .int .u32 k ∧ nv = .bool neg ∧ k < 4294967296 ∧ q0 ≤ k ∧ Row 77 .u32 wr gu cu L ∧ Row 77 .u32 wr gv cv V ∧ Chg [gu] w wr ∧ L.length = U.length ∧ dig 4294967296 L ∧
      (∀ j, (j < o ∨ o + (m + 1) ≤ j) → L.getD j 0 = U.getD j 0) ∧ win 4294967296 L o (m + 1) + k * vv = uu + PP * neg.toNat)
    (fun qv _ _ => (intOf qv).toNat)
  case atStart => exact ⟨q, neg, L, rfl, rfl, hq, HGE.out, hL2, hV2, c3, HL1.out, dL, HL2.out, HL3.out⟩
  case round =>
    obtain ⟨k, neg, L, rfl, rfl, hk, hge, hL, hV, hc, lL, dL, oL, vL⟩ := hrel
    clear hL2 hV2 c3
    have K1 := Lib.hid lL
    have K2 := Lib.hid oL
    have K3 := Lib.hid vL
    have K4 := Lib.hid hge
    clear lL oL vL hge
    cases neg with
    | false =>
      have hkq : Hid (k = uu / vv) := quo_eq hV0 (by rw [HQ0.out]; exact K4.out) (by have := K3.out; simp at this; omega)
      go_wp2
      go_ret
      refine ⟨k, L, rfl, hk, by rw [HUU.out, HVV.out]; exact hkq.out, hL, hV, hc, K1.out, dL, K2.out, ?_⟩
      rw [HUU.out, HVV.out]
      have h1 := K3.out
      simp at h1
      have h2 := Nat.mod_add_div uu vv
      rw [← hkq.out, Nat.mul_comm] at h2
      omega
    | true =>
      have h1 := K3.out
      simp only [Bool.toNat_true, Nat.mul_one] at h1
      have h2 := win_lt 4294967296 L o (by omega) dL (m + 1)
      rw [HPP.out] at h2
      have hkq : q0 < k := by rw [← HQ0.out]; exact quo_less hV0 (by omega)
      have HK := Lib.hid h1
      clear h1 h2
      go_wp2_with fail
      refine (addM_any gu o cu cu' gv cv m L V wr hL hV hne dL dV HM.out hmb (by rw [K1.out]; exact hou)).mono ?_
      rintro e w3 ⟨big, M, rfl, hM, hV3, c4, lM, dM, oM, vM⟩
      have M1 := Lib.hid lM
      have M2 := Lib.hid oM
      have M3 := Lib.hid vM
      have c5 := hc.same c4
      clear lM oM vM hL hV hc c4
      have hk1 : (k : Int) - 1 = ((k - 1 : Nat) : Int) := by omega
      have HK1 := Lib.hid hk1; clear hk1
      go_wp2_with fail
      go_roundw
      case rel =>
        refine ⟨k - 1, !big, M, by rw [HK1.out], rfl, by omega, by omega, hM, hV3, c5, by rw [M1.out, K1.out], dM, fun j hj => by rw [M2.out j hj, K2.out j hj], ?_⟩
        have h1 := M3.out
        have h2 := HK.out
        rw [HVV.out, HPP.out] at h1
        have h3 : k * vv = (k - 1) * vv + vv := by rw [← Nat.succ_mul]; congr 1; omega
        cases big <;> simp at h1 ⊢ <;> omega
      case measure => simp [intOf]; omega

end Go.Proofs.YtjmonodjnljhdaaDoor
