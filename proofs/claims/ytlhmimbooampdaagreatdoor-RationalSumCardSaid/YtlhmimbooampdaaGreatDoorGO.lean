/-
  Several parts put together: Q14, Q15, Q16.
-/
import Derived.Test.YtlhmimbooampdaaGreatDoorGM
import Derived.Test.YtlhmimbooampdaaGreatDoorR15
import Derived.Test.YtlhmimbooampdaaGreatDoorGN
/- Part Q14. -/

namespace Go.Proofs.YtlhmimbooampdaaGreatDoor
open Go.RowKit Nd

theorem Sl.keep {w w' : World} {v : Value} {xs : List Nat} (h : Sl w v xs) (hc : Chg [] w w') : Sl w' v xs := by
  cases h with
  | nil => exact .nil
  | row g cap _ hr => exact .row g cap _ (hr.keep hc (by simp))
theorem ways1 {L : List Nat} (nL : noz L) (h : lv 4294967296 L ≠ 0) :
    (1 < L.length ∧ lv 4294967296 L ≠ 1) ∨ (L.length = 1 ∧ 1 < L.getD 0 0 ∧ lv 4294967296 L ≠ 1) ∨ (L.length = 1 ∧ L.getD 0 0 = 1 ∧ lv 4294967296 L = 1) := by
  match L, nL, h with
  | [], _, h => exact absurd rfl h
  | [x], _, h =>
    have e : lv 4294967296 [x] = x := by simp [lv]
    rw [e] at h ⊢
    have e2 : [x].getD 0 0 = x := rfl
    rw [e2]
    by_cases hx : x = 1
    · exact .inr (.inr ⟨rfl, hx, hx⟩)
    · exact .inr (.inl ⟨rfl, by omega, hx⟩)
  | x :: y :: l, nL, _ =>
    refine .inl ⟨by simp, ?_⟩
    have h1 := lv_ge (B := 4294967296) (x :: y :: l) nL (by simp)
    have h2 : 4294967296 ^ 1 ≤ 4294967296 ^ ((x :: y :: l).length - 1) := Nat.pow_le_pow_right (by omega) (by simp)
    omega

set_option maxRecDepth 20000 in
set_option maxHeartbeats 1000000 in
theorem reduced_zero (neg : Bool) (ga ca : Nat) (v : Value) (w : World) :
    Calls Tryz.prog 61 #[.bool neg, .slice (some ⟨ga, 0, none⟩) 0 ca, v] w fun e w' => e = .returned (.agg #[.bool false, .string ⟨#[]⟩, .string ⟨#[]⟩]) ∧ Chg [] w w' := by
  have hch : Chg [] w (w.alloc (.cells #[.bool false, .string ⟨#[]⟩, .string ⟨#[]⟩] 27)) := (Chg.refl _ _).alloc _
  go_enter Tryz.func61, Tryz.ntmps61
  go_wp2_with fail
  exact bodyPost_ret (v := .agg #[.bool false, .string ⟨#[]⟩, .string ⟨#[]⟩]) (by simp [results, Tryz.results61, go_sem]) rfl ⟨rfl, hch⟩

set_option maxRecDepth 20000 in
set_option maxHeartbeats 2000000 in
theorem reduced_any (neg : Bool) (ga ca gb cb : Nat) (A C : List Nat) (w : World) (hA : Row 30 .u32 w ga ca A) (hC : Row 30 .u32 w gb cb C) (dA : dig 4294967296 A) (dC : dig 4294967296 C) (nA : noz A) (nC : noz C)
    (la : A.length ≤ 1099511627775) (lc : C.length ≤ 1099511627775) (zA : lv 4294967296 A ≠ 0) (zC : lv 4294967296 C ≠ 0) :
    Calls Tryz.prog 61 #[.bool neg, .slice (some ⟨ga, 0, none⟩) A.length ca, .slice (some ⟨gb, 0, none⟩) C.length cb] w fun e w' => ∃ x, e = .returned (.agg #[.bool x.neg, .string x.num, .string x.den]) ∧ Enc x (sq neg (lv 4294967296 A) (lv 4294967296 C)) ∧ Chg [] w w' := by
  have hch : Chg [] w (w.alloc (.cells #[.bool false, .string ⟨#[]⟩, .string ⟨#[]⟩] 27)) := (Chg.refl _ _).alloc _
  have b1 := Blk3.alloc w (.bool false) (.string ⟨#[]⟩) (.string ⟨#[]⟩) 27
  replace hA := hA.keep hch (by simp)
  replace hC := hC.keep hch (by simp)
  have hA0 : A ≠ [] := by rintro rfl; exact zA rfl
  have hna : ((A.length : Int) == 0) = false := by
    have := List.length_pos_iff.2 hA0
    rw [beq_eq_false_iff_ne]; omega
  obtain ⟨n, HN⟩ := name_it (lv 4294967296 A / Nat.gcd (lv 4294967296 A) (lv 4294967296 C))
  obtain ⟨d, HD⟩ := name_it (lv 4294967296 C / Nat.gcd (lv 4294967296 A) (lv 4294967296 C))
  have hg0 : 0 < Nat.gcd (lv 4294967296 A) (lv 4294967296 C) := Nat.gcd_pos_of_pos_right _ (Nat.pos_of_ne_zero zC)
  have HS : Hid (sq neg n d = sq neg (lv 4294967296 A) (lv 4294967296 C) ∧ Nat.gcd n d = 1 ∧ n ≠ 0 ∧ d ≠ 0) := by
    show _ ∧ _
    rw [← HN.out, ← HD.out]
    refine ⟨sq_lowest zC, ?_, ?_, ?_⟩
    · rw [Nat.gcd_div (Nat.gcd_dvd_left _ _) (Nat.gcd_dvd_right _ _)]; exact Nat.div_self hg0
    · exact Nat.ne_of_gt (Nat.div_pos (Nat.le_of_dvd (Nat.pos_of_ne_zero zA) (Nat.gcd_dvd_left _ _)) hg0)
    · exact Nat.ne_of_gt (Nat.div_pos (Nat.le_of_dvd (Nat.pos_of_ne_zero zC) (Nat.gcd_dvd_right _ _)) hg0)
  have ZC := Lib.hid zC
  have ZA := Lib.hid zA
  have HG0 := Lib.hid hg0
  clear zA zC hg0
  go_enter Tryz.func61, Tryz.ntmps61
  go_wp2_with fail
  refine (common_any ga ca gb cb A C _ hA hC dA dC nA nC la lc).mono ?_
  rintro e w1 ⟨gg, cg, G, rfl, hG, dG, nG, vG, lG, c1⟩
  have VG := Lib.hid vG
  replace hA := hA.keep c1 (by simp)
  replace hC := hC.keep c1 (by simp)
  replace b1 := b1.keep c1 (by simp)
  replace hch := hch.then c1
  clear c1 vG hna
  go_upto_region 4 with fail
  have ww := ways1 nG (by rw [VG.out]; exact Nat.ne_of_gt HG0.out)
  have hG0 : G ≠ [] := by rintro rfl; have := VG.out; rw [← this] at HG0; exact absurd HG0.out (by simp [lv])
  have hgc := hG.cell 0 (List.length_pos_iff.2 hG0)
  go_cut [24] (fun bv wx => wx = w1 ∧ bv = .bool (decide (lv 4294967296 G ≠ 1)))
  case first =>
    rcases ww with ⟨h1, h2⟩ | ⟨h1, h3, h2⟩ | ⟨h1, h3, h2⟩
    · have hl1 : decide ((1 : Int) < (G.length : Int)) = true := by simp; omega
      go_wp2_with fail
      go_meet
      exact ⟨rfl, by simp [h2]⟩
    · obtain ⟨x, HX⟩ := name_it (G.getD 0 0)
      rw [HX.out] at hgc h3
      have hl1 : decide ((1 : Int) < (G.length : Int)) = false := by simp; omega
      have hl2 : decide ((1 : Int) < (x : Int)) = true := by simp; omega
      have hl3 : 0 < G.length := by omega
      go_wp2_with fail
      go_meet
      exact ⟨rfl, by simp [h2]⟩
    · rw [h3] at hgc
      have hl1 : decide ((1 : Int) < (G.length : Int)) = false := by simp; omega
      have hl3 : 0 < G.length := by omega
      go_wp2_with fail
      go_meet
      exact ⟨rfl, by simp [h2]⟩
  case rest =>
  obtain ⟨rfl, rfl⟩ := hcut
  clear hgc ww
  go_upto_if 24 with fail
  go_cut [1, 2] (fun nv dv wx => ∃ (gd cd : Nat) (N D : List Nat), dv = .slice (some ⟨gd, 0, none⟩) D.length cd ∧ Sl wx nv N ∧ dig 4294967296 N ∧ N.length ≤ 1099511627775 ∧ lv 4294967296 N = n ∧ Row 30 .u32 wx gd cd D ∧ dig 4294967296 D ∧ noz D ∧ D.length ≤ 1099511627775 ∧ lv 4294967296 D = d ∧ Blk3 wx w.heap.size (.bool false) (.string ⟨#[]⟩) (.string ⟨#[]⟩) ∧ Chg [] w wx)
  case first =>
    by_cases h2 : lv 4294967296 G = 1
    · have hdd : decide (lv 4294967296 G ≠ 1) = false := by simp [h2]
      have e1 : lv 4294967296 A = n := by rw [← HN.out, ← VG.out, h2, Nat.div_one]
      have e2 : lv 4294967296 C = d := by rw [← HD.out, ← VG.out, h2, Nat.div_one]
      rw [hdd]
      go_wp2_with fail
      go_meet
      exact ⟨gb, cb, A, C, rfl, .row ga ca A hA, dA, la, e1, hC, dC, nC, lc, e2, b1, hch⟩
    · have hdd : decide (lv 4294967296 G ≠ 1) = true := by simp [h2]
      rw [hdd]
      go_wp2_with fail
      refine (rdivide_any ga ca gg cg A G _ hA hG dA dG nA nG la hG0).mono ?_
      rintro e w2 ⟨qv, rv, rfl, Q, R, hD⟩
      have hQ := hD.q
      have dQ := hD.dQ
      have lQ := hD.lQ
      have vQ := Lib.hid hD.vQ
      have c2 := hD.chg
      replace hC := hC.keep c2 (by simp)
      replace hG := hG.keep c2 (by simp)
      replace b1 := b1.keep c2 (by simp)
      replace hch := hch.then c2
      clear hD c2 hA
      go_wp2_with fail
      refine (rdivide_any gb cb gg cg C G _ hC hG dC dG nC nG lc hG0).mono ?_
      rintro e w3 ⟨qv2, rv2, rfl, Q2, R2, hD⟩
      have hQ2 := hD.q
      have dQ2 := hD.dQ
      have nQ2 := hD.nQ
      have lQ2 := hD.lQ
      have vQ2 := Lib.hid hD.vQ
      have c2 := hD.chg
      replace hQ := hQ.keep c2
      replace b1 := b1.keep c2 (by simp)
      replace hch := hch.then c2
      clear hD c2 hC hG
      have e1 : lv 4294967296 Q = n := by rw [vQ.out, VG.out]; exact HN.out
      have e2 : lv 4294967296 Q2 = d := by rw [vQ2.out, VG.out]; exact HD.out
      have hd0 := HS.out.2.2.2
      cases hQ2 with
      | nil => exact absurd e2.symm (by simp [lv]; exact hd0)
      | row gd cd _ hQr =>
        go_wp2_with fail
        go_meet
        exact ⟨gd, cd, Q, Q2, rfl, hQ, dQ, Nat.le_trans lQ la, e1, hQr, dQ2, nQ2, Nat.le_trans lQ2 lc, e2, b1, hch⟩
  case rest =>
    clear b1 hch hA hC hG
    obtain ⟨gd, cd, N, D, rfl, hN, dN, lN, vN, hD, dD, nD, lD, vD, b1, hch⟩ := hcut
    have VN := Lib.hid vN
    have VD := Lib.hid vD
    clear vN vD
    go_wp2_with fail
    refine (text_any _ hN dN (by omega)).mono ?_
    rintro e w2 ⟨s, rfl, hs, c2⟩
    rw [VN.out] at hs
    have HS2 := Lib.hid hs
    replace hD := hD.keep c2 (by simp)
    replace b1 := b1.keep c2 (by simp)
    replace hch := hch.then c2
    clear hs c2 hN
    have hlt := b1.lt
    have b2 := Blk3.alloc w2 (.bool neg) (.string s) (.string ⟨#[]⟩) 27
    have ca := ((Chg.refl [] w2).alloc (.cells #[.bool neg, .string s, .string ⟨#[]⟩] 27))
    replace b1 := b1.keep ca (by simp)
    replace hD := hD.keep ca (by simp)
    replace hch := hch.then ca
    clear ca
    obtain ⟨g2, G2⟩ := name_it w2.heap.size
    rw [G2.out] at b2 hlt
    have hG2 := G2.out
    go_upto_region 8 with fail
    obtain ⟨w3, HW3⟩ := name_it (w2.alloc (.cells #[.bool neg, .string s, .string ⟨#[]⟩] 27))
    rw [HW3.out] at b1 b2 hD hch ⊢
    have hz : lv 4294967296 D ≠ 0 := by rw [VD.out]; exact HS.out.2.2.2
    have ww := ways1 nD hz
    have hD0 : D ≠ [] := by rintro rfl; exact hz rfl
    have hgc := hD.cell 0 (List.length_pos_iff.2 hD0)
    go_cut [49] (fun bv wx => wx = w3 ∧ bv = .bool (decide (lv 4294967296 D ≠ 1)))
    case first =>
      rcases ww with ⟨h1, h2⟩ | ⟨h1, h3, h2⟩ | ⟨h1, h3, h2⟩
      · have hl1 : decide ((1 : Int) < (D.length : Int)) = true := by simp; omega
        go_wp2_with fail
        go_meet
        exact ⟨rfl, by simp [h2]⟩
      · obtain ⟨x, HX⟩ := name_it (D.getD 0 0)
        rw [HX.out] at hgc h3
        have hl1 : decide ((1 : Int) < (D.length : Int)) = false := by simp; omega
        have hl2 : decide ((1 : Int) < (x : Int)) = true := by simp; omega
        have hl3 : 0 < D.length := by omega
        go_wp2_with fail
        go_meet
        exact ⟨rfl, by simp [h2]⟩
      · rw [h3] at hgc
        have hl1 : decide ((1 : Int) < (D.length : Int)) = false := by simp; omega
        have hl3 : 0 < D.length := by omega
        go_wp2_with fail
        go_meet
        exact ⟨rfl, by simp [h2]⟩
    case rest =>
    obtain ⟨rfl, rfl⟩ := hcut
    clear hgc ww
    have HL := Lib.hid hlt
    clear hlt
    by_cases h2 : lv 4294967296 D = 1
    · have hdd : decide (lv 4294967296 D ≠ 1) = false := by simp [h2]
      rw [hdd]
      have hd1 : d = 1 := by rw [← VD.out, h2]
      have b1c0 := b1.c0
      have b1c1 := b1.c1
      have b1c2 := b1.c2
      have b1f0 := b1.f0
      have b1f1 := b1.f1
      have b1f2 := b1.f2
      have b1l := b1.lt
      have b2c0 := b2.c0
      have b2c1 := b2.c1
      have b2c2 := b2.c2
      have b2f0 := b2.f0
      have b2f1 := b2.f1
      have b2f2 := b2.f2
      have b2l := b2.lt
      go_wp2_with fail
      have S := b1.store (.bool neg) (.string s) (.string ⟨#[]⟩)
      have he : Enc ⟨neg, s, ⟨#[]⟩⟩ (sq neg (lv 4294967296 A) (lv 4294967296 C)) := by
        have h := Enc_make (neg := neg) HS.out.2.2.2 HS.out.2.1 HS2.out (show Is ⟨#[]⟩ (if d = 1 then 0 else d) by rw [if_pos hd1]; exact Is_zero.2 rfl)
        rw [HS.out.1, show (neg && decide (n ≠ 0)) = neg by simp [HS.out.2.2.1]] at h
        exact h
      exact bodyPost_ret (v := .agg #[.bool neg, .string s, .string ⟨#[]⟩]) (by simp [results, Tryz.results61, go_sem, S.c0, S.c1, S.c2]) rfl ⟨⟨neg, s, ⟨#[]⟩⟩, rfl, he, hch.store3 (.inr (by omega)) _ _ _⟩
    · have hdd : decide (lv 4294967296 D ≠ 1) = true := by simp [h2]
      rw [hdd]
      have hd1 : d ≠ 1 := by rw [← VD.out]; exact h2
      go_wp2_with fail
      refine (text_row gd cd D _ hD dD (by omega)).mono ?_
      rintro e w4 ⟨t, rfl, ht, c4⟩
      rw [VD.out] at ht
      have HT := Lib.hid ht
      replace b1 := b1.keep c4 (by simp)
      replace b2 := b2.keep c4 (by simp)
      replace hch := hch.then c4
      clear ht c4 hD
      have b1c0 := b1.c0
      have b1c1 := b1.c1
      have b1c2 := b1.c2
      have b1f0 := b1.f0
      have b1f1 := b1.f1
      have b1f2 := b1.f2
      have b1l := b1.lt
      have b2c0 := b2.c0
      have b2c1 := b2.c1
      have b2c2 := b2.c2
      have b2f0 := b2.f0
      have b2f1 := b2.f1
      have b2f2 := b2.f2
      have b2l := b2.lt
      have hne := HL.out
      have hne1 : ¬ w.heap.size = g2 := by omega
      have hne2 : ¬ g2 = w.heap.size := by omega
      go_wp2_with fail
      have b1' := b1.keep ((Chg.refl [g2] w4).setCell (p := ⟨g2, 2, none⟩) (.inl (by simp)) (.string t)) (by simp; omega)
      have S := b1'.store (.bool neg) (.string s) (.string t)
      have he : Enc ⟨neg, s, t⟩ (sq neg (lv 4294967296 A) (lv 4294967296 C)) := by
        have h := Enc_make (neg := neg) HS.out.2.2.2 HS.out.2.1 HS2.out (show Is t (if d = 1 then 0 else d) by rw [if_neg hd1]; exact HT.out)
        rw [HS.out.1, show (neg && decide (n ≠ 0)) = neg by simp [HS.out.2.2.1]] at h
        exact h
      exact bodyPost_ret (v := .agg #[.bool neg, .string s, .string t]) (by simp [results, Tryz.results61, go_sem, S.c0, S.c1, S.c2]) rfl ⟨⟨neg, s, t⟩, rfl, he, (hch.setCell (p := ⟨g2, 2, none⟩) (.inr (by show _ ≤ g2; omega)) _).store3 (.inr (Nat.le_refl _)) _ _ _⟩
end Go.Proofs.YtlhmimbooampdaaGreatDoor

/- Part Q15. -/

namespace Go.Proofs.YtlhmimbooampdaaGreatDoor
open Go.RowKit Nd

theorem ok_q0 : okB q0 = true := Enc_zero.ok
end Go.Proofs.YtlhmimbooampdaaGreatDoor

/- Part Q16. -/

namespace Go.Proofs.YtlhmimbooampdaaGreatDoor
open Go.RowKit Nd

set_option maxRecDepth 20000 in
set_option maxHeartbeats 1000000 in
theorem rFix_any (x : Q3) (w : World) (h1 : x.num.size ≤ 1099511627776) (h2 : x.den.size ≤ 1099511627776) :
    Calls Tryz.prog 25 #[.agg #[.bool x.neg, .string x.num, .string x.den]] w fun e w' => ∃ y, e = .returned (.agg #[.bool y.neg, .string y.num, .string y.den]) ∧ Enc y (ratOf x) ∧ Chg [] w w' := by
  obtain ⟨b1, b2, hch⟩ := box1 w x 27
  by_cases hok : okB x = true
  · have HE := Lib.hid (ok_enc hok)
    go_enter Tryz.func25, Tryz.ntmps25
    go_wp2_with fail
    obtain ⟨w0, HW0⟩ := name_it ((w.alloc (.cells #[.bool x.neg, .string x.num, .string x.den] 27)).alloc (.cells #[.bool false, .string ⟨#[]⟩, .string ⟨#[]⟩] 27))
    rw [HW0.out] at b1 b2 hch
    rw [HW0.out]
    refine (rValid_any x _ h1 h2).mono ?_
    rintro e w1 ⟨rfl, c1⟩
    rw [hok]
    replace b1 := b1.keep c1 (by simp)
    replace b2 := b2.keep c1 (by simp)
    replace hch := hch.then c1
    clear c1
    have b1c0 := b1.c0
    have b1c1 := b1.c1
    have b1c2 := b1.c2
    have b1f0 := b1.f0
    have b1f1 := b1.f1
    have b1f2 := b1.f2
    have b1l := b1.lt
    have b2c0 := b2.c0
    have b2c1 := b2.c1
    have b2c2 := b2.c2
    have b2f0 := b2.f0
    have b2f1 := b2.f1
    have b2f2 := b2.f2
    have b2l := b2.lt
    go_wp2_with fail
    have S := b2.store (.bool x.neg) (.string x.num) (.string x.den)
    exact bodyPost_ret (v := .agg #[.bool x.neg, .string x.num, .string x.den]) (by simp [results, Tryz.results25, go_sem, S.c0, S.c1, S.c2]) rfl ⟨x, rfl, HE.out, hch.store3 (.inr (by omega)) _ _ _⟩
  · rw [Bool.not_eq_true] at hok
    have HE : Hid (Enc q0 (ratOf x)) := by show Enc _ _; rw [bad_rat hok]; exact Enc_zero
    go_enter Tryz.func25, Tryz.ntmps25
    go_wp2_with fail
    obtain ⟨w0, HW0⟩ := name_it ((w.alloc (.cells #[.bool x.neg, .string x.num, .string x.den] 27)).alloc (.cells #[.bool false, .string ⟨#[]⟩, .string ⟨#[]⟩] 27))
    rw [HW0.out] at b1 b2 hch
    rw [HW0.out]
    refine (rValid_any x _ h1 h2).mono ?_
    rintro e w1 ⟨rfl, c1⟩
    rw [hok]
    replace b1 := b1.keep c1 (by simp)
    replace b2 := b2.keep c1 (by simp)
    replace hch := hch.then c1
    clear c1
    have b1c0 := b1.c0
    have b1c1 := b1.c1
    have b1c2 := b1.c2
    have b1f0 := b1.f0
    have b1f1 := b1.f1
    have b1f2 := b1.f2
    have b1l := b1.lt
    have b2c0 := b2.c0
    have b2c1 := b2.c1
    have b2c2 := b2.c2
    have b2f0 := b2.f0
    have b2f1 := b2.f1
    have b2f2 := b2.f2
    have b2l := b2.lt
    go_wp2_with fail
    have S := b2.store (.bool false) (.string ⟨#[]⟩) (.string ⟨#[]⟩)
    exact bodyPost_ret (v := .agg #[.bool false, .string ⟨#[]⟩, .string ⟨#[]⟩]) (by simp [results, Tryz.results25, go_sem, S.c0, S.c1, S.c2]) rfl ⟨q0, rfl, HE.out, hch.store3 (.inr (by omega)) _ _ _⟩

set_option maxRecDepth 20000 in
set_option maxHeartbeats 1000000 in
theorem rden_any (x : Q3) (p : Rat) (w : World) (hx : Enc x p) (h2 : x.den.size ≤ 1099511627776) :
    Calls Tryz.prog 59 #[.agg #[.bool x.neg, .string x.num, .string x.den]] w fun e w' => ∃ g c L, e = .returned (.slice (some ⟨g, 0, none⟩) L.length c) ∧ Row 30 .u32 w' g c L ∧ dig 4294967296 L ∧ noz L ∧ lv 4294967296 L = p.den ∧ 4 * L.length ≤ x.den.size + 4 ∧ Chg [] w w' := by
  have b1 := Blk3.alloc w (.bool x.neg) (.string x.num) (.string x.den) 27
  have hch : Chg [] w (w.alloc (.cells #[.bool x.neg, .string x.num, .string x.den] 27)) := (Chg.refl _ _).alloc _
  have hd := Is_empty hx.den
  have HX := Lib.hid hx
  clear hx
  obtain ⟨t, T⟩ := name_it x.den.toList.isEmpty
  rw [T.out] at hd
  have HD := Lib.hid hd
  clear hd
  have ht := T.out
  cases t
  · have hv : Hid (val x.den = p.den) := by
      show _ = _
      have h0 := HD.out
      have h1 := Is_val HX.out.den
      by_cases h : p.den = 1
      · rw [if_pos h] at h0; simp at h0
      · rw [if_neg h] at h1; exact h1
    go_enter Tryz.func59, Tryz.ntmps59
    go_wp2_with fail
    refine (limbs_any x.den _ h2).mono ?_
    rintro e w1 ⟨g, c, L, rfl, hL, hg, dL, nL, vL, lL, c1⟩
    replace hch := hch.then c1
    rw [hv.out] at vL
    have VL := Lib.hid vL
    clear vL c1
    go_wp2_with fail
    go_ret
    exact ⟨g, c, L, rfl, hL, dL, nL, VL.out, by omega, hch⟩
  · have hv : Hid (p.den = 1) := by
      show _ = _
      have h0 := HD.out
      by_cases h : p.den = 1
      · exact h
      · rw [if_neg h, decide_eq_false p.den_nz] at h0; exact absurd h0 (by decide)
    have hrow : Row 30 .u32 ((w.alloc (.cells #[.bool x.neg, .string x.num, .string x.den] 27)).alloc (Obj.cells #[Value.int IntKind.u32 1] 30)) (w.heap.size + 1) 1 [1] := by
      have h := Row.of_alloc (k := .u32) (e := 30) (w.alloc (.cells #[.bool x.neg, .string x.num, .string x.den] 27)) (#[Value.int IntKind.u32 1]) [1] (by simp [vals]) (by simp)
      rw [World.size_alloc] at h
      exact h
    replace hch := hch.then ((Chg.refl [] _).alloc (Obj.cells #[Value.int IntKind.u32 1] 30))
    go_enter Tryz.func59, Tryz.ntmps59
    go_wp2_with fail
    go_ret
    exact ⟨_, _, [1], rfl, hrow, dig_cons (by omega) (dig_nil _), by simp [noz], by rw [hv.out]; simp [lv], by simp, hch⟩
end Go.Proofs.YtlhmimbooampdaaGreatDoor
