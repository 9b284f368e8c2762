/-
  Several parts put together: W9, W10, W11, W12.
-/
import Derived.Test.YtogciehmdlfkfaaGreatDoorGD
import Derived.Test.YtogciehmdlfkfaaGreatDoorGB
/- Part W9. -/

namespace Go.Proofs.YtogciehmdlfkfaaGreatDoor
open Go.RowKit Nd

theorem estimate_any (gu o cu cu' gv cv m : Nat) (U V : List Nat) (w : World) (hU : Row 120 .u32 w gu cu U) (hV : Row 120 .u32 w gv cv V) (dU : dig 4294967296 U) (dV : dig 4294967296 V) (nV : noz V)
    (hm : V.length = m) (hm0 : 1 ≤ m) (hmb : m ≤ 1099511627776) (hou : o + m < U.length) (hlt : win 4294967296 U o (m + 1) < lv 4294967296 V * 4294967296) :
    Calls Tryz.prog 176 #[.slice (some ⟨gu, o, none⟩) (m + 1) cu', .slice (some ⟨gv, 0, none⟩) m cv] w fun e w' => ∃ q n : Nat, e = .returned (.int .u32 q) ∧ q < 4294967296 ∧ win 4294967296 U o (m + 1) / lv 4294967296 V ≤ q ∧ w' = w.drewN n := by
  have htop := top_le (by omega) dV hm hm0 hlt
  have hlast := noz_last nV hm hm0
  have b1 := fun k => dig_getD (by omega) dU k
  have b2 := fun k => dig_getD (by omega) dV k
  by_cases h1 : m = 1
  · subst h1
    have c0 := hU.cell (o + 1) (by omega)
    have c1 := hU.cell o (by omega)
    have c2 := hV.cell 0 (by omega)
    have hv : lv 4294967296 V = V.getD 0 0 := lv_one _ V hm
    rw [hv, win_top2] at hlt
    rw [hv, win_top2]
    rw [show 1 - 1 = 0 from rfl] at htop hlast
    have ha := b1 (o + 1)
    have hb := b1 o
    have hd := b2 0
    generalize U.getD (o + 1) 0 = a at *
    generalize U.getD o 0 = b at *
    generalize V.getD 0 0 = d at *
    refine (estimate_one gu o cu' gv cv a b d w c0 c1 c2 htop hb hd hlast).mono ?_
    rintro e w' ⟨s, n, rfl, hs, hsd, rfl⟩
    exact ⟨_, n, rfl, min_lt _, est_one a b d s htop hb hlast hs hsd hlt, rfl⟩
  · obtain ⟨k, rfl⟩ : ∃ k, m = k + 2 := ⟨m - 2, by omega⟩
    have c0 := hU.cell (o + (k + 2)) (by omega)
    have c1 := hU.cell (o + (k + 1)) (by omega)
    have c2 := hU.cell (o + k) (by omega)
    have c3 := hV.cell (k + 1) (by omega)
    have c4 := hV.cell k (by omega)
    have e1 : k + 2 - 1 = k + 1 := by omega
    rw [e1] at htop hlast
    have EL := fun s => @est_list U V o k s dU dV nV hm hlt
    have a1 := b1 (o + (k + 2))
    have a2 := b1 (o + (k + 1))
    have a3 := b1 (o + k)
    have a4 := b2 (k + 1)
    have a5 := b2 k
    have hlt2 : win 4294967296 U o (k + 2 + 1) = win 4294967296 U o (k + 3) := rfl
    rw [hlt2]
    clear hlt hlt2
    generalize win 4294967296 U o (k + 3) = uu at *
    generalize lv 4294967296 V = vv at *
    generalize U.getD (o + (k + 2)) 0 = a at *
    generalize U.getD (o + (k + 1)) 0 = b at *
    generalize U.getD (o + k) 0 = c at *
    generalize V.getD (k + 1) 0 = d at *
    generalize V.getD k 0 = f at *
    refine (estimate_long gu o cu' gv cv (k + 2) a b c d f w (by omega) hmb c0 c1 c2 c3 c4 htop a2 a3 a4 hlast a5).mono ?_
    rintro e w' ⟨s, n, rfl, hs, hsd, rfl⟩
    exact ⟨_, n, rfl, min_lt _, EL s hs hsd, rfl⟩

theorem quo_eq {U V k : Nat} (hV : 0 < V) (h1 : U / V ≤ k) (h2 : k * V ≤ U) : k = U / V := Nat.le_antisymm ((Nat.le_div_iff_mul_le hV).2 h2) h1
theorem quo_less {U V k : Nat} (hV : 0 < V) (h2 : U < k * V) : U / V < k := (Nat.div_lt_iff_lt_mul hV).2 h2

set_option maxRecDepth 20000 in
set_option maxHeartbeats 800000 in
theorem divideStep_any (gu o cu cu' gv cv m : Nat) (U V : List Nat) (w : World) (hU : Row 120 .u32 w gu cu U) (hV : Row 120 .u32 w gv cv V) (hne : gv ≠ gu) (dU : dig 4294967296 U) (dV : dig 4294967296 V) (nV : noz V)
    (hm : V.length = m) (hm0 : 1 ≤ m) (hmb : m ≤ 1099511627776) (hou : o + m < U.length) (hlt : win 4294967296 U o (m + 1) < lv 4294967296 V * 4294967296) :
    Calls Tryz.prog 159 #[.slice (some ⟨gu, o, none⟩) (m + 1) cu', .slice (some ⟨gv, 0, none⟩) m cv] w fun e w' => ∃ (q : Nat) (L : List Nat), e = .returned (.int .u32 q) ∧ q < 4294967296 ∧ q = win 4294967296 U o (m + 1) / lv 4294967296 V ∧
      Row 120 .u32 w' gu cu L ∧ Row 120 .u32 w' gv cv V ∧ Chg [gu] w w' ∧ L.length = U.length ∧ dig 4294967296 L ∧ (∀ j, (j < o ∨ o + (m + 1) ≤ j) → L.getD j 0 = U.getD j 0) ∧
      win 4294967296 L o (m + 1) = win 4294967296 U o (m + 1) % lv 4294967296 V := by
  have hV0 : 0 < lv 4294967296 V := lv_pos (by omega) nV (by rintro rfl; simp at hm; omega)
  have HM := Lib.hid hm
  have HLT := Lib.hid hlt
  obtain ⟨vv, HVV⟩ := name_it (lv 4294967296 V)
  obtain ⟨uu, HUU⟩ := name_it (win 4294967296 U o (m + 1))
  obtain ⟨q0, HQ0⟩ := name_it (uu / vv)
  obtain ⟨PP, HPP⟩ := name_it (4294967296 ^ (m + 1))
  go_enter Tryz.func159, Tryz.ntmps159
  go_wp2_with fail
  refine (estimate_any gu o cu cu' gv cv m U V w hU hV dU dV nV hm hm0 hmb hou hlt).mono ?_
  rintro e w1 ⟨q, n, rfl, hq, hge, rfl⟩
  have c1 : Chg [gu] w (w.drewN n) := (Chg.refl _ _).drewN n
  have hU1 : Row 120 .u32 (w.drewN n) gu cu U := hU
  have hV1 : Row 120 .u32 (w.drewN n) gv cv V := hV
  obtain ⟨w1, HW⟩ := name_it (w.drewN n)
  rw [HW.out] at c1 hU1 hV1 ⊢
  rw [HVV.out] at hV0
  rw [HUU.out, HVV.out, HQ0.out] at hge
  have HGE := Lib.hid hge
  clear hge hm hlt hU hV
  go_wp2_with fail
  refine (subM_any gu o cu cu' gv cv q m U V w1 hU1 hV1 hne dU dV HM.out hmb hou hq).mono ?_
  rintro e w2 ⟨neg, L, rfl, hL2, hV2, c2, lL, dL, oL, vL⟩
  rw [HUU.out, HVV.out, HPP.out] at vL
  have HL1 := Lib.hid lL
  have HL2 := Lib.hid oL
  have HL3 := Lib.hid vL
  have c3 := c1.same c2
  clear lL oL vL hU1 hV1 c1 c2
  go_wp2_with fail
  go_loopw [5, 6] (fun qv nv wr => ∃ (k : Nat) (neg : Bool) (L : List Nat), qv = .int .u32 k ∧ nv = .bool neg ∧ k < 4294967296 ∧ q0 ≤ k ∧ Row 120 .u32 wr gu cu L ∧ Row 120 .u32 wr gv cv V ∧ Chg [gu] w wr ∧ L.length = U.length ∧ dig 4294967296 L ∧
      (∀ j, (j < o ∨ o + (m + 1) ≤ j) → L.getD j 0 = U.getD j 0) ∧ win 4294967296 L o (m + 1) + k * vv = uu + PP * neg.toNat)
    (fun qv _ _ => (intOf qv).toNat)
  case atStart => exact ⟨q, neg, L, rfl, rfl, hq, HGE.out, hL2, hV2, c3, HL1.out, dL, HL2.out, HL3.out⟩
  case round =>
    obtain ⟨k, neg, L, rfl, rfl, hk, hge, hL, hV, hc, lL, dL, oL, vL⟩ := hrel
    clear hL2 hV2 c3
    have K1 := Lib.hid lL
    have K2 := Lib.hid oL
    have K3 := Lib.hid vL
    have K4 := Lib.hid hge
    clear lL oL vL hge
    cases neg with
    | false =>
      have hkq : Hid (k = uu / vv) := quo_eq hV0 (by rw [HQ0.out]; exact K4.out) (by have := K3.out; simp at this; omega)
      go_wp2
      go_ret
      refine ⟨k, L, rfl, hk, by rw [HUU.out, HVV.out]; exact hkq.out, hL, hV, hc, K1.out, dL, K2.out, ?_⟩
      rw [HUU.out, HVV.out]
      have h1 := K3.out
      simp at h1
      have h2 := Nat.mod_add_div uu vv
      rw [← hkq.out, Nat.mul_comm] at h2
      omega
    | true =>
      have h1 := K3.out
      simp only [Bool.toNat_true, Nat.mul_one] at h1
      have h2 := win_lt 4294967296 L o (by omega) dL (m + 1)
      rw [HPP.out] at h2
      have hkq : q0 < k := by rw [← HQ0.out]; exact quo_less hV0 (by omega)
      have HK := Lib.hid h1
      clear h1 h2
      go_wp2_with fail
      refine (addM_any gu o cu cu' gv cv m L V wr hL hV hne dL dV HM.out hmb (by rw [K1.out]; exact hou)).mono ?_
      rintro e w3 ⟨big, M, rfl, hM, hV3, c4, lM, dM, oM, vM⟩
      have M1 := Lib.hid lM
      have M2 := Lib.hid oM
      have M3 := Lib.hid vM
      have c5 := hc.same c4
      clear lM oM vM hL hV hc c4
      have hk1 : (k : Int) - 1 = ((k - 1 : Nat) : Int) := by omega
      have HK1 := Lib.hid hk1; clear hk1
      go_wp2_with fail
      go_roundw
      case rel =>
        refine ⟨k - 1, !big, M, by rw [HK1.out], rfl, by omega, by omega, hM, hV3, c5, by rw [M1.out, K1.out], dM, fun j hj => by rw [M2.out j hj, K2.out j hj], ?_⟩
        have h1 := M3.out
        have h2 := HK.out
        rw [HVV.out, HPP.out] at h1
        have h3 : k * vv = (k - 1) * vv + vv := by rw [← Nat.succ_mul]; congr 1; omega
        cases big <;> simp at h1 ⊢ <;> omega
      case measure => simp [intOf]; omega

end Go.Proofs.YtogciehmdlfkfaaGreatDoor

/- Part W10. -/

namespace Go.Proofs.YtogciehmdlfkfaaGreatDoor
open Go.RowKit Nd

/-- What the division of the rows leaves: quotient and remainder. -/
structure DivOut (w w' : World) (gu gv cv : Nat) (U V : List Nat) (qv rv : Value) : Prop where
  out : ∃ (Q R : List Nat) (g c : Nat), Sl w' qv Q ∧ rv = .slice (some ⟨g, 0, none⟩) R.length c ∧ Row 120 .u32 w' g c R ∧ dig 4294967296 Q ∧ dig 4294967296 R ∧ noz R ∧ Q.length ≤ U.length + 1 ∧ R.length ≤ U.length + 1 ∧
    lv 4294967296 Q = lv 4294967296 U / lv 4294967296 V ∧ lv 4294967296 R = lv 4294967296 U % lv 4294967296 V ∧ (g = gu ∨ w.heap.size ≤ g)
  keep : Row 120 .u32 w' gv cv V
  chg : Chg [gu] w w'

theorem lv_small {B : Nat} {U V : List Nat} (hB : 1 < B) (dU : dig B U) (nV : noz V) (h : U.length < V.length) : lv B U < lv B V := by
  have h1 := lv_lt (by omega) U dU
  have h2 := lv_ge (B := B) V nV (by rintro rfl; simp at h)
  have h3 : B ^ U.length ≤ B ^ (V.length - 1) := Nat.pow_le_pow_right (by omega) (by omega)
  omega

set_option maxRecDepth 20000 in
set_option maxHeartbeats 400000 in
theorem divide_short (gu cu gv cv : Nat) (U V : List Nat) (w : World) (hU : Row 120 .u32 w gu cu U) (hV : Row 120 .u32 w gv cv V) (dU : dig 4294967296 U) (nV : noz V) (h : U.length < V.length) :
    Calls Tryz.prog 138 #[.slice (some ⟨gu, 0, none⟩) U.length cu, .slice (some ⟨gv, 0, none⟩) V.length cv] w fun e w' => ∃ qv rv, e = .returned (.tuple #[qv, rv]) ∧ DivOut w w' gu gv cv U V qv rv := by
  have hlt := lv_small (B := 4294967296) (by omega) dU nV h
  have hfit := hU.fits
  have hf2 := hV.fits
  have HLT := Lib.hid hlt
  have hcells := Lib.hid (fun j hj => hU.cell j hj)
  clear hlt
  go_enter Tryz.func138, Tryz.ntmps138
  go_wp2_with fail
  refine (trim_row gu 0 cu U w hfit.1 hfit.2 (fun j hj => by simpa using hcells.out j hj)).mono ?_
  rintro e w' ⟨rfl, rfl⟩
  go_wp2_with fail
  go_ret2
  refine ⟨_, _, rfl, ⟨⟨[], trim U, gu, cu, Sl.nil, by rw [trim_length]; rfl, hU.take _ (tl_le U), dig_nil _, trim_dig dU, trim_noz U, by simp, ?_, ?_, ?_, .inl rfl⟩, hV, Chg.refl _ _⟩⟩
  · rw [trim_length]; have := tl_le U; omega
  · rw [Nat.div_eq_of_lt HLT.out]; rfl
  · rw [lv_trim, Nat.mod_eq_of_lt HLT.out]

set_option maxRecDepth 20000 in
set_option maxHeartbeats 1600000 in
theorem divide_long (gu cu gv cv : Nat) (U V : List Nat) (w : World) (hU : Row 120 .u32 w gu cu U) (hV : Row 120 .u32 w gv cv V) (hne : gv ≠ gu) (dU : dig 4294967296 U) (dV : dig 4294967296 V) (nV : noz V) (hV0 : V ≠ [])
    (lu : U.length ≤ 1099511627775) (h : V.length ≤ U.length) :
    Calls Tryz.prog 138 #[.slice (some ⟨gu, 0, none⟩) U.length cu, .slice (some ⟨gv, 0, none⟩) V.length cv] w fun e w' => ∃ qv rv, e = .returned (.tuple #[qv, rv]) ∧ DivOut w w' gu gv cv U V qv rv := by
  obtain ⟨i0, hi, hz0, hz1, hz2⟩ := info_parts Tryz.info32
  have hm0 : 1 ≤ V.length := by cases V with | nil => exact absurd rfl hV0 | cons => simp
  obtain ⟨m, HM⟩ := name_it V.length
  obtain ⟨n, HN⟩ := name_it U.length
  have DI := fun Q hQ => DivI.start (B := 4294967296) (by omega) dU nV HM.out (by rw [← HM.out]; exact hm0) (by rw [← HM.out]; exact h) Q hQ
  have HDI := Lib.hid DI
  clear DI
  rw [HM.out, HN.out]
  rw [HM.out, HN.out] at h
  rw [HM.out] at hm0
  rw [HN.out] at lu
  obtain ⟨kq, HKQ⟩ := name_it (n + 1 - m)
  have hk1 : kq ≤ n := by have := HKQ.out; omega
  go_enter Tryz.func138, Tryz.ntmps138
  go_wp2_with (at_builtin; refine wpList_append_row _ rfl (.tmp 15) (.tmp 16) 118 rfl 120 i0 .u32 Tryz.underlying118 hi hz0 hz1 (by rw [hz2]; omega) gu cu U n HN.out rfl (hU.keep ((Chg.refl [] w).alloc _) (by simp)) [0] 1 rfl ⟨w.heap.size, 0, none⟩ 1 rfl (cells_alloc w _ 120 .u32 [0] rfl (by simp)) (by omega) ?_)
  intro g1 c1 w1 hU1 hg1 hch1
  have hch2 : Chg [gu] w w1 := ((Chg.refl [gu] w).alloc _).same hch1
  have hV1 := (hV.keep hch2 (by simpa using hne))
  have hg2 : g1 = gu ∨ w.heap.size ≤ g1 := by rcases hg1 with h | h; exact .inl h; exact .inr (by omega)
  have hne1 : gv ≠ g1 := by rcases hg2 with h | h; rw [h]; exact hne; have := hV.lt; omega
  have hg3 : g1 < w1.heap.size := hU1.lt
  clear hU hV hch1 hg1
  go_wp2_with (at_make; refine wpList_make_cap _ rfl (.tmp 22) (.tmp 22) 118 rfl 120 i0 .u32 Tryz.underlying118 hi hz0 hz1 .i64 .i64 _ _ kq kq rfl rfl (by have := HKQ.out; omega) (by have := HKQ.out; omega) (Nat.le_refl _) (by rw [hz2]; omega) (by omega) ?_)
  intro w2 hQ2 hch3
  have hV2 := hV1.keep hch3 (by simp)
  have hU2 := hU1.keep hch3 (by simp)
  have hne2 : gv ≠ w1.heap.size := by have := hV1.lt; omega
  have hne3 : g1 ≠ w1.heap.size := by omega
  have hfr0 : w.heap.size ≤ w1.heap.size := hch2.size
  have hch4 : Chg [gu] w w2 := hch2.then hch3
  obtain ⟨gq, HGQ⟩ := name_it w1.heap.size
  rw [HGQ.out] at hQ2 hne2 hne3 hfr0 ⊢
  clear hV1 hU1 hch3 hch2 hi hz0 hz1 hz2 hg3
  have HST := HDI.out _ rfl
  rw [HN.out, HKQ.out] at HST
  have HST2 := Lib.hid HST
  clear HST
  go_wp2_with fail
  go_loopw [7] (fun iv wr => ∃ (t : Nat) (L Q : List Nat), t ≤ kq ∧ iv = .int .i64 ((t : Int) - 1) ∧ DivI 4294967296 (lv 4294967296 U) V (n + 1) m t L Q ∧
      Row 120 .u32 wr g1 c1 L ∧ Row 120 .u32 wr gv cv V ∧ Row 120 .u32 wr gq kq Q ∧ Chg [gu] w wr)
    (fun iv _ => (intOf iv + 1).toNat)
  case atStart => exact ⟨kq, U ++ [0], List.replicate kq 0, Nat.le_refl _, rfl, HST2.out, hU2, hV2, hQ2, hch4⟩
  case round =>
    obtain ⟨t, L, Q, ht, rfl, hD, hL, hV, hQ, hch⟩ := hrel
    clear hU2 hV2 hQ2 hch4
    by_cases ht0 : 1 ≤ t
    · obtain ⟨i, rfl⟩ : ∃ i, t = i + 1 := ⟨t - 1, by omega⟩
      have hii : ((i + 1 : Nat) : Int) - 1 = (i : Int) := by omega
      rw [hii]
      clear hii ht0
      have hlL : Hid (L.length = n + 1) := hD.lenL
      have hlQ : Hid (Q.length = kq) := by show Q.length = kq; rw [hD.lenQ]; exact HKQ.out
      have hf := hL.fits
      have hc1 : n + 1 ≤ c1 := by rw [← hlL.out]; exact hf.1
      have hc2 := hf.2
      clear hf
      have him : i + m ≤ n := by have := HKQ.out; omega
      have dL := hD.digL
      have hlt := hD.lt (by omega)
      have HD := Lib.hid hD
      clear hD
      go_wp2_with fail
      rw [show i + m + 1 - i = m + 1 by omega]
      refine (divideStep_any g1 i c1 (c1 - i) gv cv m L V wr hL hV hne1 dL dV nV HM.out hm0 (by omega) (by rw [hlL.out]; omega) hlt).mono ?_
      rintro e w3 ⟨q, M, rfl, hq, hqe, hM, hV3, hc3, lM, dM, oM, vM⟩
      have hQ3 := hQ.keep hc3 (by simpa using Ne.symm hne3)
      have hch3 : Chg [gu] w w3 := hch.trans hc3 (fun x hx => by simp at hx; subst hx; rcases hg2 with h | h; exact .inl (by simp [h]); exact .inr h)
      have HST := Lib.hid (HD.out.step (by omega) dV HM.out (by have := HKQ.out; omega) hq hqe lM dM oM vM)
      have hcell := hQ3.cell i (by rw [hlQ.out]; omega)
      have hfr := hQ3.frozen i
      obtain ⟨old, HO⟩ := name_it (Q.getD i 0)
      rw [HO.out] at hcell
      clear hqe lM oM vM hL hV hQ hch hc3 hlt HD
      go_wp2_with fail
      go_roundw
      case rel =>
        exact ⟨i, M, Q.set i q, by omega, rfl, HST.out, hM.other (Ne.symm (Ne.symm hne3)) _, hV3.other hne2 _, hQ3.store _ _, hch3.setCell (.inr hfr0) _⟩
      case measure => simp [intOf]
    · have ht1 : t = 0 := by omega
      subst ht1
      have hlL : Hid (L.length = n + 1) := hD.lenL
      have hlQ : Hid (Q.length = kq) := by show Q.length = kq; rw [hD.lenQ]; exact HKQ.out
      have dL := hD.digL
      have dQ := hD.digQ
      have HDN := Lib.hid (hD.done (by omega))
      have hf := hL.fits
      have hcs := Lib.hid (fun j hj => hL.cell j hj)
      have hl1 : (L.length : Int) = (n : Int) + 1 := by have := hlL.out; omega
      clear hD
      go_wp2_with fail
      rw [← hlL.out]
      refine (trim_row g1 0 c1 L wr hf.1 hf.2 (fun j hj => by simpa using hcs.out j hj)).mono ?_
      rintro e w3 ⟨rfl, rfl⟩
      go_wp2_with fail
      go_ret2
      have hSl : Sl wr (.slice (some ⟨gq, 0, none⟩) Q.length kq) Q := Sl.row _ _ _ hQ
      rw [hlQ.out] at hSl
      have h1 := tl_le L
      rw [hlL.out] at h1
      exact ⟨_, _, rfl, ⟨⟨Q, trim L, g1, c1, hSl, by rw [trim_length]; rfl, hL.take _ (tl_le L), dQ, trim_dig dL, trim_noz L, by rw [hlQ.out, HN.out]; omega, by rw [trim_length, HN.out]; exact h1, HDN.out.1, by rw [lv_trim]; exact HDN.out.2, hg2⟩, hV, hch⟩⟩

theorem divide_any (gu cu gv cv : Nat) (U V : List Nat) (w : World) (hU : Row 120 .u32 w gu cu U) (hV : Row 120 .u32 w gv cv V) (hne : gv ≠ gu) (dU : dig 4294967296 U) (dV : dig 4294967296 V) (nV : noz V) (hV0 : V ≠ [])
    (lu : U.length ≤ 1099511627775) :
    Calls Tryz.prog 138 #[.slice (some ⟨gu, 0, none⟩) U.length cu, .slice (some ⟨gv, 0, none⟩) V.length cv] w fun e w' => ∃ qv rv, e = .returned (.tuple #[qv, rv]) ∧ DivOut w w' gu gv cv U V qv rv := by
  by_cases h : U.length < V.length
  · exact divide_short gu cu gv cv U V w hU hV dU nV h
  · exact divide_long gu cu gv cv U V w hU hV hne dU dV nV hV0 lu (by omega)

theorem lv_nil_iff {B : Nat} {V : List Nat} (hB : 0 < B) (nV : noz V) : V.length = 0 ↔ lv B V = 0 := by
  rw [lv_zero_iff hB V nV]; exact List.length_eq_zero_iff

set_option maxRecDepth 20000 in
set_option maxHeartbeats 400000 in
theorem Divide_zero (a b : ByteArray) (w : World) (hb : b.size ≤ 1099511627776) (h : val b = 0) :
    Calls Tryz.prog 204 #[.string a, .string b] w fun e w' => e = .returned (.tuple #[.string ⟨#[]⟩, .string ⟨#[]⟩, .bool false]) ∧ Chg [] w w' := by
  have H := Lib.hid h; clear h
  go_enter Tryz.func204, Tryz.ntmps204
  go_wp2_with fail
  refine (toLimbs_any b _ hb).mono ?_
  rintro e w1 ⟨gb, cb, V, rfl, hV, hgb, dV, nV, vV, lV, cV⟩
  have h0 : V.length = 0 := (lv_nil_iff (B := 4294967296) (by omega) nV).2 (by rw [vV]; exact H.out)
  rw [h0]
  clear h0 vV lV
  go_wp2_with fail
  go_ret3
  exact ⟨rfl, cV⟩

set_option maxRecDepth 20000 in
set_option maxHeartbeats 400000 in
theorem Divide_any (a b : ByteArray) (w : World) (ha : a.size ≤ 1099511627776) (hb : b.size ≤ 1099511627776) (h : val b ≠ 0) :
    Calls Tryz.prog 204 #[.string a, .string b] w fun e w' => ∃ q r, e = .returned (.tuple #[.string q, .string r, .bool true]) ∧ Is q (val a / val b) ∧ Is r (val a % val b) ∧ Chg [] w w' := by
  have H := Lib.hid h; clear h
  go_enter Tryz.func204, Tryz.ntmps204
  go_wp2_with fail
  refine (toLimbs_any b _ hb).mono ?_
  rintro e w1 ⟨gv, cv, V, rfl, hV, hgb, dV, nV, vV, lV, cV⟩
  have h0 : V.length ≠ 0 := fun h0 => H.out (by rw [← vV]; exact (lv_nil_iff (B := 4294967296) (by omega) nV).1 h0)
  have hV0 : V ≠ [] := by rintro rfl; exact h0 rfl
  have h1 : 0 < V.length := by omega
  have VV := Lib.hid vV
  have hb0 : ((V.length : Int) == 0) = false := by rw [beq_eq_false_iff_ne]; omega
  clear h0 vV
  go_wp2_with fail
  refine (toLimbs_any a _ ha).mono ?_
  rintro e w2 ⟨gu, cu, U, rfl, hU, hgu, dU, nU, vU, lU, cU⟩
  have UU := Lib.hid vU
  clear vU
  have hne : gv ≠ gu := by have := hV.lt; omega
  have hV2 := hV.keep cU (by simp)
  have hlu : U.length ≤ 1099511627775 := by omega
  have hfr : w.heap.size ≤ gu := Nat.le_trans cV.size hgu
  have hch : Chg [] w w2 := cV.then cU
  clear hV cU cV lU lV hgu hgb
  go_wp2_with fail
  refine (divide_any gu cu gv cv U V w2 hU hV2 hne dU dV nV hV0 hlu).mono ?_
  rintro e w3 ⟨qv, rv, rfl, ⟨Q, R, g, c, hQ, rfl, hR, dQ, dR, nR, lQ, lR, vQ, vR, _⟩, hV3, hc3⟩
  rw [UU.out, VV.out] at vQ vR
  have VQ := Lib.hid vQ
  have VR := Lib.hid vR
  have hch2 : Chg [] w w3 := hch.fresh hc3 hfr
  clear vQ vR hch hc3 hU hV2 hV3 hb0
  go_wp2_with fail
  refine (fromLimbs_any w3 hQ dQ (by omega)).mono ?_
  rintro e w4 ⟨q, rfl, hq, c4⟩
  have hR4 := hR.keep c4 (by simp)
  go_wp2_with fail
  refine (fromLimbs_row g c R w4 hR4 dR (by omega)).mono ?_
  rintro e w5 ⟨r, rfl, hr, c5⟩
  go_wp2_with fail
  go_ret3
  rw [VQ.out] at hq
  rw [VR.out] at hr
  exact ⟨q, r, rfl, hq, hr, (hch2.then c4).then c5⟩

end Go.Proofs.YtogciehmdlfkfaaGreatDoor

/- Part W11. -/

namespace Go.Proofs.YtogciehmdlfkfaaGreatDoor
open Go.RowKit Nd

set_option maxRecDepth 20000 in
set_option maxHeartbeats 400000 in
theorem wordGCD_any (x y : Nat) (w : World) (hx : x ≤ 18446744073709551615) (hy : y ≤ 18446744073709551615) :
    Calls Tryz.prog 141 #[.int .u64 x, .int .u64 y] w fun e w' => e = .returned (.int .u64 (Nat.gcd x y : Nat)) ∧ Chg [] w w' := by
  obtain ⟨d, HD⟩ := name_it (Nat.gcd x y)
  rw [HD.out]
  go_enter Tryz.func141, Tryz.ntmps141
  go_wp2
  go_loopw [0, 1] (fun xv yv wr => ∃ a b : Nat, xv = .int .u64 a ∧ yv = .int .u64 b ∧ a ≤ 18446744073709551615 ∧ b ≤ 18446744073709551615 ∧ Nat.gcd a b = d ∧ Chg [] w wr) (fun _ yv _ => (intOf yv).toNat)
  case atStart => exact ⟨x, y, rfl, rfl, hx, hy, HD.out, Chg.refl _ _⟩
  case round =>
    obtain ⟨a, b, rfl, rfl, ha, hb, hg, hch⟩ := hrel
    have HG := Lib.hid hg
    clear hg
    by_cases h0 : 0 < b
    · have hmod : (a : Int) % (b : Int) = ((a % b : Nat) : Int) := by simp
      have hb1 : a % b < b := Nat.mod_lt _ h0
      have HM := Lib.hid hb1
      clear hb1
      go_wp2
      go_region
      all_goals
        go_wp2
        go_roundw
        case rel => exact ⟨b, a % b, rfl, by rw [hmod], hb, by have := HM.out; omega, by rw [Nat.gcd_comm, ← Nat.gcd_rec, Nat.gcd_comm]; exact HG.out, hch.drew⟩
        case measure =>
          have := HM.out
          simp only [intOf]
          rw [hmod]
          omega
    · have hb0 : b = 0 := by omega
      have HE : Hid (a = d) := by have := HG.out; rw [hb0, Nat.gcd_zero_right] at this; exact this
      clear hb0
      go_wp2
      go_ret
      exact ⟨ret_eq (by rw [← HE.out]; rfl), hch⟩

set_option maxRecDepth 20000 in
set_option maxHeartbeats 400000 in
theorem word_any (g cap : Nat) (xs : List Nat) (w : World) (hr : Row 120 .u32 w g cap xs) (hd : dig 4294967296 xs) (hl : xs.length ≤ 2) :
    Calls Tryz.prog 142 #[.slice (some ⟨g, 0, none⟩) xs.length cap] w fun e w' => e = .returned (.int .u64 (lv 4294967296 xs : Nat)) ∧ w = w' := by
  obtain ⟨n, HN⟩ := name_it xs.length
  rw [HN.out]
  rw [HN.out] at hl
  go_enter Tryz.func142, Tryz.ntmps142
  go_wp2
  go_loop [3, 8] (fun uv iv => ∃ k : Nat, k ≤ n ∧ iv = .int .i64 k ∧ uv = .int .u64 (lv 4294967296 (xs.take k) : Nat)) (fun _ iv => n - (intOf iv).toNat)
  case atStart => exact ⟨0, Nat.zero_le _, rfl, rfl⟩
  case round =>
    obtain ⟨k, hk, rfl, rfl⟩ := hrel
    by_cases hlt : k < n
    · have hcell := hr.cell k (by rw [HN.out]; exact hlt)
      have hx := dig_getD (by omega) hd k
      have hst := lv_take_step 4294967296 xs k
      have hlo := lv_lt (B := 4294967296) (by omega) _ (dig_take hd k)
      rw [List.length_take, HN.out, Nat.min_eq_left hk] at hlo
      obtain ⟨x, HX⟩ := name_it (xs.getD k 0)
      obtain ⟨u, HU⟩ := name_it (lv 4294967296 (xs.take k))
      rw [HX.out] at hcell hx hst
      rw [HU.out] at hlo hst
      rw [HU.out]
      have HST := Lib.hid hst
      clear hst
      rcases (show k = 0 ∨ k = 1 by omega) with rfl | rfl
      · have hor : bits BinOp.or IntKind.u64 (u : Int) (x : Int) = ((x + u : Nat) : Int) := by
          have := or_u64' x u 0 (by omega) (by omega) (by simpa using hlo)
          simpa using this
        go_wp2
        go_round
        case rel => exact ⟨1, by omega, rfl, by rw [HST.out]; simp; rw [Int.add_comm]⟩
        case measure => simp [intOf]; omega
      · have hlo' : u < 4294967296 := by simpa using hlo
        have hor : bits BinOp.or IntKind.u64 (u : Int) ((x : Int) * 4294967296) = ((x * 4294967296 + u : Nat) : Int) := by
          have := or_u64' x u 32 (by omega) (by omega) (by simpa using hlo')
          simpa using this
        go_wp2
        go_round
        case rel => exact ⟨2, by omega, rfl, by rw [HST.out]; simp; rw [Int.add_comm, Int.mul_comm]⟩
        case measure => simp [intOf]; omega
    · have HE : Hid (lv 4294967296 (xs.take k) = lv 4294967296 xs) := by rw [List.take_of_length_le (by rw [HN.out]; omega)]; rfl
      go_wp2
      go_ret
      exact ⟨ret_eq (by rw [← HE.out]; rfl), rfl⟩

set_option maxRecDepth 20000 in
set_option maxHeartbeats 1000000 in
theorem GCD_any (a b : ByteArray) (w : World) (ha : a.size ≤ 1099511627776) (hb : b.size ≤ 1099511627776) :
    Calls Tryz.prog 109 #[.string a, .string b] w fun e w' => ∃ s, e = .returned (.string s) ∧ Is s (Nat.gcd (val a) (val b)) ∧ Chg [] w w' := by
  obtain ⟨d, HD⟩ := name_it (Nat.gcd (val a) (val b))
  rw [HD.out]
  go_enter Tryz.func109, Tryz.ntmps109
  go_wp2_with fail
  refine (toLimbs_any a _ ha).mono ?_
  rintro e w1 ⟨gx, cx, X, rfl, hX, hgx, dX, nX, vX, lX, cX⟩
  go_wp2_with fail
  refine (toLimbs_any b _ hb).mono ?_
  rintro e w2 ⟨gy, cy, Y, rfl, hY, hgy, dY, nY, vY, lY, cY⟩
  have hX2 := hX.keep cY (by simp)
  have hne : gx ≠ gy := by have := hX.lt; omega
  have hfy : w.heap.size ≤ gy := Nat.le_trans cX.size hgy
  have hch : Chg [] w w2 := cX.then cY
  have HG : Hid (Nat.gcd (lv 4294967296 X) (lv 4294967296 Y) = d) := by rw [vX, vY]; exact HD.out
  clear hX cX cY vX vY hgy
  go_wp2_with fail
  go_loopg [5, 6] (lv 4294967296 Y) (fun k xv yv wr => ∃ (gx cx gy cy : Nat) (X Y : List Nat), xv = .slice (some ⟨gx, 0, none⟩) X.length cx ∧ yv = .slice (some ⟨gy, 0, none⟩) Y.length cy ∧
    Row 120 .u32 wr gx cx X ∧ Row 120 .u32 wr gy cy Y ∧ gx ≠ gy ∧ w.heap.size ≤ gx ∧ w.heap.size ≤ gy ∧ dig 4294967296 X ∧ dig 4294967296 Y ∧ noz X ∧ noz Y ∧ 
    X.length ≤ 1099511627775 ∧ Y.length ≤ 1099511627775 ∧ lv 4294967296 Y = k ∧ Nat.gcd (lv 4294967296 X) (lv 4294967296 Y) = d ∧ Chg [] w wr)
  case atStart => exact ⟨gx, cx, gy, cy, X, Y, rfl, rfl, hX2, hY, hne, hgx, hfy, dX, dY, nX, nY, by omega, by omega, rfl, HG.out, hch⟩
  case round =>
    clear hX2 hY hne hgx hfy dX dY nX nY HG hch lX lY
    obtain ⟨gx, cx, gy, cy, X, Y, rfl, rfl, hX, hY, hne, hgx, hgy, dX, dY, nX, nY, lX, lY, hk, hg, hch⟩ := hrel
    have HK := Lib.hid hk
    have HG := Lib.hid hg
    clear hk hg
    obtain ⟨nx, HNX⟩ := name_it X.length
    obtain ⟨ny, HNY⟩ := name_it Y.length
    rw [HNX.out, HNY.out]
    rw [HNX.out] at lX
    rw [HNY.out] at lY
    by_cases hy0 : ny = 0
    · have h0 : lv 4294967296 Y = 0 := (lv_nil_iff (B := 4294967296) (by omega) nY).1 (by rw [HNY.out]; exact hy0)
      have HE : Hid (lv 4294967296 X = d) := by have := HG.out; rw [h0, Nat.gcd_zero_right] at this; exact this
      clear h0
      subst hy0
      go_wp2_with fail
      rw [← HNX.out]
      refine (fromLimbs_row gx cx X wr hX dX (by rw [HNX.out]; omega)).mono ?_
      rintro e w3 ⟨s, rfl, hs, hc⟩
      rw [HE.out] at hs
      go_wp2_with fail
      go_ret
      exact ⟨s, rfl, hs, hch.then hc⟩
    · have hy1 : 0 < ny := by omega
      have hyb : ((ny : Int) == 0) = false := by rw [beq_eq_false_iff_ne]; omega
      have hY0 : Y ≠ [] := by rintro rfl; simp [Hid] at HNY; omega
      by_cases hbig : 2 < nx ∨ 2 < ny
      · have step : ∀ (w3 : World) (qv : Value) (Q R : List Nat) (g c : Nat), Row 120 .u32 w3 g c R → dig 4294967296 R → noz R → lv 4294967296 R = lv 4294967296 X % lv 4294967296 Y → (g = gx ∨ wr.heap.size ≤ g) → Row 120 .u32 w3 gy cy Y → Chg [gx] wr w3 →
            lv 4294967296 R < gk ∧ gy ≠ g ∧ w.heap.size ≤ g ∧ R.length ≤ 1099511627775 ∧ Nat.gcd (lv 4294967296 Y) (lv 4294967296 R) = d ∧ Chg [] w w3 := by
          intro w3 qv Q R g c hR dR nR vR hg hY3 hc3
          have hpos : 0 < lv 4294967296 Y := lv_pos (by omega) nY hY0
          have hlt : lv 4294967296 R < lv 4294967296 Y := by rw [vR]; exact Nat.mod_lt _ hpos
          refine ⟨by rw [← HK.out]; exact hlt, ?_, ?_, ?_, ?_, hch.fresh hc3 hgx⟩
          · rcases hg with h | h
            · rw [h]; exact Ne.symm hne
            · have := hY.lt; omega
          · rcases hg with h | h
            · rw [h]; exact hgx
            · exact Nat.le_trans hch.size h
          · have := len_le_of_lv (B := 4294967296) (by omega) R Y dY nR (by omega)
            rw [HNY.out] at this; omega
          · rw [vR, Nat.gcd_comm, ← Nat.gcd_rec, Nat.gcd_comm]; exact HG.out
        have STEP := Lib.hid step
        clear step
        by_cases h2 : 2 < nx
        all_goals
          have hs2 : 2 < nx ∨ 2 < ny := hbig
          clear hbig
          try (have h3 : 2 < ny := by omega)
          clear hs2
          go_wp2_with fail
          rw [← HNX.out, ← HNY.out]
          refine (divide_any gx cx gy cy X Y wr hX hY (Ne.symm hne) dX dY nY hY0 (by rw [HNX.out]; omega)).mono ?_
          rintro e w3 ⟨qv, rv, rfl, ⟨Q, R, g, c, hQ, rfl, hR, dQ, dR, nR, lQ, lR, vQ, vR, hg⟩, hY3, hc3⟩
          have S := Lib.hid (STEP.out w3 qv Q R g c hR dR nR vR hg hY3 hc3)
          clear vQ vR hX hY hc3 hch hQ dQ lQ lR hg
          rw [HNY.out]
          go_wp2_with fail
          go_roundg (lv 4294967296 R)
          case measure => exact S.out.1
          case rel => exact ⟨gy, cy, g, c, Y, R, by rw [HNY.out], rfl, hY3, hR, S.out.2.1, hgy, S.out.2.2.1, dY, dR, nY, nR, by rw [HNY.out]; omega, S.out.2.2.2.1, rfl, S.out.2.2.2.2.1, S.out.2.2.2.2.2⟩
      · have h2 : nx ≤ 2 := by omega
        have h3 : ny ≤ 2 := by omega
        clear hbig
        go_wp2_with fail
        rw [← HNX.out]
        refine (word_any gx cx X wr hX dX (by rw [HNX.out]; omega)).mono ?_
        rintro e w3 ⟨rfl, rfl⟩
        have bx : lv 4294967296 X ≤ 18446744073709551615 := by
          have h4 := lv_lt (B := 4294967296) (by omega) X dX
          have h5 : 4294967296 ^ X.length ≤ 4294967296 ^ 2 := Nat.pow_le_pow_right (by omega) (by rw [HNX.out]; exact h2)
          rw [show (4294967296 : Nat) ^ 2 = 18446744073709551616 from by decide] at h5
          omega
        have by' : lv 4294967296 Y ≤ 18446744073709551615 := by
          have h4 := lv_lt (B := 4294967296) (by omega) Y dY
          have h5 : 4294967296 ^ Y.length ≤ 4294967296 ^ 2 := Nat.pow_le_pow_right (by omega) (by rw [HNY.out]; exact h3)
          rw [show (4294967296 : Nat) ^ 2 = 18446744073709551616 from by decide] at h5
          omega
        obtain ⟨p, HP⟩ := name_it (lv 4294967296 X)
        obtain ⟨q, HQ⟩ := name_it (lv 4294967296 Y)
        have HGG := HG.out
        rw [HP.out, HQ.out] at HGG
        have HGD := Lib.hid HGG
        clear HGG
        rw [HP.out] at bx ⊢
        rw [HQ.out] at by'
        go_wp2_with fail
        rw [← HNY.out]
        refine (word_any gy cy Y wr hY dY (by rw [HNY.out]; omega)).mono ?_
        rintro e w3 ⟨rfl, rfl⟩
        rw [HQ.out]
        go_wp2_with fail
        refine (wordGCD_any p q wr bx by').mono ?_
        rintro e w4 ⟨rfl, hc4⟩
        have hle : Nat.gcd p q ≤ 18446744073709551615 := by
          by_cases hp : p = 0
          · rw [hp, Nat.gcd_zero_left]; exact by'
          · exact Nat.le_trans (Nat.le_of_dvd (by omega) (Nat.gcd_dvd_left p q)) bx
        rw [HGD.out] at hle ⊢
        have hch2 := hch.then hc4
        clear hc4 hX hY hch
        go_wp2_with fail
        refine (fromUint_any d w4 (by omega)).mono ?_
        rintro e w5 ⟨s, rfl, hs, hc5⟩
        go_wp2_with fail
        go_ret
        exact ⟨s, rfl, hs, hch2.then hc5⟩

end Go.Proofs.YtogciehmdlfkfaaGreatDoor

/- Part W12. -/

namespace Go.Proofs.YtogciehmdlfkfaaGreatDoor
open Go.RowKit Nd

theorem take_step (s : ByteArray) (k : Nat) (h : k < s.size) : s.data.toList.take (k + 1) = s.data.toList.take k ++ [s[k]] := by
  rw [List.take_succ_eq_append_getElem (by simpa using h)]; rfl
theorem all_take_false (s : ByteArray) (k : Nat) (h : k < s.size) (hf : isD s[k] = false) : s.data.toList.all isD = false := by
  rw [List.all_eq_false]
  refine ⟨s[k], ?_, by simp [hf]⟩
  exact List.mem_of_getElem? (byte_get s k h)

set_option maxRecDepth 20000 in
set_option maxHeartbeats 1000000 in
theorem isDecimal_loop (s : ByteArray) (w : World) (hs : s.size ≤ 1099511627776) (h0 : s.toList.isEmpty = false) (h1 : (1 ≤ s.size ∧ s.size ≤ 1) ∨ ∃ h : 1 < s.size, ((s[0].toNat : Int) == 48) = false) :
    Calls Tryz.prog 196 #[.string s] w fun e w' => e = .returned (.bool (s.data.toList.all isD)) ∧ w = w' := by
  obtain ⟨r, HR⟩ := name_it (s.data.toList.all isD)
  rw [HR.out]
  rcases h1 with ⟨h1, h2⟩ | ⟨h1, h2⟩
  all_goals
    go_enter Tryz.func196, Tryz.ntmps196
    go_wp2_with fail
    go_loop [18] (fun iv => ∃ k : Nat, k ≤ s.size ∧ iv = .int .i64 k ∧ (s.data.toList.take k).all isD = true) (fun iv => s.size - (intOf iv).toNat)
    case atStart => exact ⟨0, Nat.zero_le _, rfl, by simp⟩
    case round =>
      obtain ⟨k, hk, rfl, hall⟩ := hrel
      have HA := Lib.hid hall
      clear hall
      by_cases hlt : k < s.size
      · by_cases c1 : s[k].toNat < 48
        · have hr : r = false := by rw [← HR.out]; exact all_take_false s k hlt (by simp [isD]; omega)
          have c1' : (s[k].toNat : Int) < 48 := by omega
          subst hr
          go_wp2_with fail
          go_ret
          exact ⟨rfl, rfl⟩
        · by_cases c2 : 57 < s[k].toNat
          · have hr : r = false := by rw [← HR.out]; exact all_take_false s k hlt (by simp [isD]; omega)
            have c1' : ¬ (s[k].toNat : Int) < 48 := by omega
            have c2' : 57 < (s[k].toNat : Int) := by omega
            subst hr
            go_wp2_with fail
            go_ret
            exact ⟨rfl, rfl⟩
          · have hst : Hid ((s.data.toList.take (k + 1)).all isD = true) := by
              show _ = _
              rw [take_step s k hlt, List.all_append, HA.out]
              simp [isD]; omega
            have c1' : ¬ (s[k].toNat : Int) < 48 := by omega
            have c2' : ¬ 57 < (s[k].toNat : Int) := by omega
            go_wp2_with fail
            go_round
            case rel => exact ⟨k + 1, by omega, by go_num, hst.out⟩
            case measure => simp [intOf]; omega
      · have hr : r = true := by rw [← HR.out]; have := HA.out; rwa [List.take_of_length_le (by simp; omega)] at this
        subst hr
        go_wp2_with fail
        go_ret
        exact ⟨rfl, rfl⟩

set_option maxRecDepth 20000 in
theorem isDecimal_empty (s : ByteArray) (w : World) (h0 : s.toList.isEmpty = true) :
    Calls Tryz.prog 196 #[.string s] w fun e w' => e = .returned (.bool false) ∧ w = w' := by
  go_enter Tryz.func196, Tryz.ntmps196
  go_wp2_with fail
  go_ret
  exact ⟨rfl, rfl⟩
set_option maxRecDepth 20000 in
theorem isDecimal_zero (s : ByteArray) (w : World) (hs : s.size ≤ 1099511627776) (h0 : s.toList.isEmpty = false) (h : 1 < s.size) (h2 : ((s[0].toNat : Int) == 48) = true) :
    Calls Tryz.prog 196 #[.string s] w fun e w' => e = .returned (.bool false) ∧ w = w' := by
  go_enter Tryz.func196, Tryz.ntmps196
  go_wp2_with fail
  go_ret
  exact ⟨rfl, rfl⟩

theorem toList_data (s : ByteArray) : s.toList = s.data.toList := by rw [ByteArray.toList_eq]

theorem isDecimal_any (s : ByteArray) (w : World) (hs : s.size ≤ 1099511627776) :
    Calls Tryz.prog 196 #[.string s] w fun e w' => e = .returned (.bool (canD s.data.toList)) ∧ w = w' := by
  have hsz : s.size = s.data.toList.length := by simp
  by_cases he : s.toList.isEmpty = true
  · have : canD s.data.toList = false := by rw [toList_data] at he; simp [canD, he]
    rw [this]
    exact isDecimal_empty s w he
  · have he' : s.toList.isEmpty = false := by simpa using he
    have hpos : 1 ≤ s.size := by
      rw [toList_data] at he'
      rw [hsz]
      cases hl : s.data.toList with
      | nil => rw [hl] at he'; simp at he'
      | cons => simp
    have hne : s.data.toList.isEmpty = false := by rw [← toList_data]; exact he'
    by_cases h1 : 1 < s.size
    · have hg := byte_get s 0 (by omega)
      have hh : s.data.toList.head? = some s[0] := by rw [← hg, List.head?_eq_getElem?]
      by_cases h2 : ((s[0].toNat : Int) == 48) = true
      · have : canD s.data.toList = false := by
          have : s[0] = 48 := UInt8.toNat_inj.1 (by rw [beq_iff_eq] at h2; exact Int.ofNat_inj.1 h2)
          rw [this] at hh
          simp [canD, hh]
          intro _ _; omega
        rw [this]
        exact isDecimal_zero s w hs he' h1 h2
      · have h2' : ((s[0].toNat : Int) == 48) = false := by simpa using h2
        have : canD s.data.toList = s.data.toList.all isD := by
          have h3 : s[0] ≠ 48 := by intro h; rw [h] at h2; exact h2 rfl
          simp [canD, hne, hh, h3]
        rw [this]
        exact isDecimal_loop s w hs he' (.inr ⟨h1, h2'⟩)
    · have : canD s.data.toList = s.data.toList.all isD := by
        have h3 : s.data.toList.length = 1 := by omega
        simp only [canD, hne, h3]
        simp
      rw [this]
      exact isDecimal_loop s w hs he' (.inl ⟨hpos, by omega⟩)

end Go.Proofs.YtogciehmdlfkfaaGreatDoor
