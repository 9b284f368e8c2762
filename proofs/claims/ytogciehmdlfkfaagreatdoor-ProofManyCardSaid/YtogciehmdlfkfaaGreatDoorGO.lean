/-
  Several parts put together: Q14, Q15, Q16.
-/
import Derived.Test.YtogciehmdlfkfaaGreatDoorGM
import Derived.Test.YtogciehmdlfkfaaGreatDoorR15
import Derived.Test.YtogciehmdlfkfaaGreatDoorGN
/- Part Q14. -/

namespace Go.Proofs.YtogciehmdlfkfaaGreatDoor
open Go.RowKit Nd

theorem Sl.keep {w w' : World} {v : Value} {xs : List Nat} (h : Sl w v xs) (hc : Chg [] w w') : Sl w' v xs := by
  cases h with
  | nil => exact .nil
  | row g cap _ hr => exact .row g cap _ (hr.keep hc (by simp))
theorem ways1 {L : List Nat} (nL : noz L) (h : lv 4294967296 L ≠ 0) :
    (1 < L.length ∧ lv 4294967296 L ≠ 1) ∨ (L.length = 1 ∧ 1 < L.getD 0 0 ∧ lv 4294967296 L ≠ 1) ∨ (L.length = 1 ∧ L.getD 0 0 = 1 ∧ lv 4294967296 L = 1) := by
  match L, nL, h with
  | [], _, h => exact absurd rfl h
  | [x], _, h =>
    have e : lv 4294967296 [x] = x := by simp [lv]
    rw [e] at h ⊢
    have e2 : [x].getD 0 0 = x := rfl
    rw [e2]
    by_cases hx : x = 1
    · exact .inr (.inr ⟨rfl, hx, hx⟩)
    · exact .inr (.inl ⟨rfl, by omega, hx⟩)
  | x :: y :: l, nL, _ =>
    refine .inl ⟨by simp, ?_⟩
    have h1 := lv_ge (B := 4294967296) (x :: y :: l) nL (by simp)
    have h2 : 4294967296 ^ 1 ≤ 4294967296 ^ ((x :: y :: l).length - 1) := Nat.pow_le_pow_right (by omega) (by simp)
    omega

set_option maxRecDepth 20000 in
set_option maxHeartbeats 1000000 in
theorem reduced_zero (neg : Bool) (ga ca : Nat) (v : Value) (w : World) :
    Calls Tryz.prog 104 #[.bool neg, .slice (some ⟨ga, 0, none⟩) 0 ca, v] w fun e w' => e = .returned (.agg #[.bool false, .string ⟨#[]⟩, .string ⟨#[]⟩]) ∧ Chg [] w w' := by
  have hch : Chg [] w (w.alloc (.cells #[.bool false, .string ⟨#[]⟩, .string ⟨#[]⟩] 25)) := (Chg.refl _ _).alloc _
  go_enter Tryz.func104, Tryz.ntmps104
  go_wp2_with fail
  exact bodyPost_ret (v := .agg #[.bool false, .string ⟨#[]⟩, .string ⟨#[]⟩]) (by simp [results, Tryz.results104, go_sem]) rfl ⟨rfl, hch⟩

set_option maxRecDepth 20000 in
set_option maxHeartbeats 2000000 in
theorem reduced_any (neg : Bool) (ga ca gb cb : Nat) (A C : List Nat) (w : World) (hA : Row 120 .u32 w ga ca A) (hC : Row 120 .u32 w gb cb C) (dA : dig 4294967296 A) (dC : dig 4294967296 C) (nA : noz A) (nC : noz C)
    (la : A.length ≤ 1099511627775) (lc : C.length ≤ 1099511627775) (zA : lv 4294967296 A ≠ 0) (zC : lv 4294967296 C ≠ 0) :
    Calls Tryz.prog 104 #[.bool neg, .slice (some ⟨ga, 0, none⟩) A.length ca, .slice (some ⟨gb, 0, none⟩) C.length cb] w fun e w' => ∃ x, e = .returned (.agg #[.bool x.neg, .string x.num, .string x.den]) ∧ Enc x (sq neg (lv 4294967296 A) (lv 4294967296 C)) ∧ Chg [] w w' := by
  have hch : Chg [] w (w.alloc (.cells #[.bool false, .string ⟨#[]⟩, .string ⟨#[]⟩] 25)) := (Chg.refl _ _).alloc _
  have b1 := Blk3.alloc w (.bool false) (.string ⟨#[]⟩) (.string ⟨#[]⟩) 25
  replace hA := hA.keep hch (by simp)
  replace hC := hC.keep hch (by simp)
  have hA0 : A ≠ [] := by rintro rfl; exact zA rfl
  have hna : ((A.length : Int) == 0) = false := by
    have := List.length_pos_iff.2 hA0
    rw [beq_eq_false_iff_ne]; omega
  obtain ⟨n, HN⟩ := name_it (lv 4294967296 A / Nat.gcd (lv 4294967296 A) (lv 4294967296 C))
  obtain ⟨d, HD⟩ := name_it (lv 4294967296 C / Nat.gcd (lv 4294967296 A) (lv 4294967296 C))
  have hg0 : 0 < Nat.gcd (lv 4294967296 A) (lv 4294967296 C) := Nat.gcd_pos_of_pos_right _ (Nat.pos_of_ne_zero zC)
  have HS : Hid (sq neg n d = sq neg (lv 4294967296 A) (lv 4294967296 C) ∧ Nat.gcd n d = 1 ∧ n ≠ 0 ∧ d ≠ 0) := by
    show _ ∧ _
    rw [← HN.out, ← HD.out]
    refine ⟨sq_lowest zC, ?_, ?_, ?_⟩
    · rw [Nat.gcd_div (Nat.gcd_dvd_left _ _) (Nat.gcd_dvd_right _ _)]; exact Nat.div_self hg0
    · exact Nat.ne_of_gt (Nat.div_pos (Nat.le_of_dvd (Nat.pos_of_ne_zero zA) (Nat.gcd_dvd_left _ _)) hg0)
    · exact Nat.ne_of_gt (Nat.div_pos (Nat.le_of_dvd (Nat.pos_of_ne_zero zC) (Nat.gcd_dvd_right _ _)) hg0)
  have ZC := Lib.hid zC
  have ZA := Lib.hid zA
  have HG0 := Lib.hid hg0
  clear zA zC hg0
  go_enter Tryz.func104, Tryz.ntmps104
  go_wp2_with fail
  refine (common_any ga ca gb cb A C _ hA hC dA dC nA nC la lc).mono ?_
  rintro e w1 ⟨gg, cg, G, rfl, hG, dG, nG, vG, lG, c1⟩
  have VG := Lib.hid vG
  replace hA := hA.keep c1 (by simp)
  replace hC := hC.keep c1 (by simp)
  replace b1 := b1.keep c1 (by simp)
  replace hch := hch.then c1
  clear c1 vG hna
  go_upto_region 4 with fail
  have ww := ways1 nG (by rw [VG.out]; exact Nat.ne_of_gt HG0.out)
  have hG0 : G ≠ [] := by rintro rfl; have := VG.out; rw [← this] at HG0; exact absurd HG0.out (by simp [lv])
  have hgc := hG.cell 0 (List.length_pos_iff.2 hG0)
  go_cut [24] (fun bv wx => wx = w1 ∧ bv = .bool (decide (lv 4294967296 G ≠ 1)))
  case first =>
    rcases ww with ⟨h1, h2⟩ | ⟨h1, h3, h2⟩ | ⟨h1, h3, h2⟩
    · have hl1 : decide ((1 : Int) < (G.length : Int)) = true := by simp; omega
      go_wp2_with fail
      go_meet
      exact ⟨rfl, by simp [h2]⟩
    · obtain ⟨x, HX⟩ := name_it (G.getD 0 0)
      rw [HX.out] at hgc h3
      have hl1 : decide ((1 : Int) < (G.length : Int)) = false := by simp; omega
      have hl2 : decide ((1 : Int) < (x : Int)) = true := by simp; omega
      have hl3 : 0 < G.length := by omega
      go_wp2_with fail
      go_meet
      exact ⟨rfl, by simp [h2]⟩
    · rw [h3] at hgc
      have hl1 : decide ((1 : Int) < (G.length : Int)) = false := by simp; omega
      have hl3 : 0 < G.length := by omega
      go_wp2_with fail
      go_meet
      exact ⟨rfl, by simp [h2]⟩
  case rest =>
  obtain ⟨rfl, rfl⟩ := hcut
  clear hgc ww
  go_upto_if 24 with fail
  go_cut [1, 2] (fun nv dv wx => ∃ (gd cd : Nat) (N D : List Nat), dv = .slice (some ⟨gd, 0, none⟩) D.length cd ∧ Sl wx nv N ∧ dig 4294967296 N ∧ N.length ≤ 1099511627775 ∧ lv 4294967296 N = n ∧ Row 120 .u32 wx gd cd D ∧ dig 4294967296 D ∧ noz D ∧ D.length ≤ 1099511627775 ∧ lv 4294967296 D = d ∧ Blk3 wx w.heap.size (.bool false) (.string ⟨#[]⟩) (.string ⟨#[]⟩) ∧ Chg [] w wx)
  case first =>
    by_cases h2 : lv 4294967296 G = 1
    · have hdd : decide (lv 4294967296 G ≠ 1) = false := by simp [h2]
      have e1 : lv 4294967296 A = n := by rw [← HN.out, ← VG.out, h2, Nat.div_one]
      have e2 : lv 4294967296 C = d := by rw [← HD.out, ← VG.out, h2, Nat.div_one]
      rw [hdd]
      go_wp2_with fail
      go_meet
      exact ⟨gb, cb, A, C, rfl, .row ga ca A hA, dA, la, e1, hC, dC, nC, lc, e2, b1, hch⟩
    · have hdd : decide (lv 4294967296 G ≠ 1) = true := by simp [h2]
      rw [hdd]
      go_wp2_with fail
      refine (rdivide_any ga ca gg cg A G _ hA hG dA dG nA nG la hG0).mono ?_
      rintro e w2 ⟨qv, rv, rfl, Q, R, hD⟩
      have hQ := hD.q
      have dQ := hD.dQ
      have lQ := hD.lQ
      have vQ := Lib.hid hD.vQ
      have c2 := hD.chg
      replace hC := hC.keep c2 (by simp)
      replace hG := hG.keep c2 (by simp)
      replace b1 := b1.keep c2 (by simp)
      replace hch := hch.then c2
      clear hD c2 hA
      go_wp2_with fail
      refine (rdivide_any gb cb gg cg C G _ hC hG dC dG nC nG lc hG0).mono ?_
      rintro e w3 ⟨qv2, rv2, rfl, Q2, R2, hD⟩
      have hQ2 := hD.q
      have dQ2 := hD.dQ
      have nQ2 := hD.nQ
      have lQ2 := hD.lQ
      have vQ2 := Lib.hid hD.vQ
      have c2 := hD.chg
      replace hQ := hQ.keep c2
      replace b1 := b1.keep c2 (by simp)
      replace hch := hch.then c2
      clear hD c2 hC hG
      have e1 : lv 4294967296 Q = n := by rw [vQ.out, VG.out]; exact HN.out
      have e2 : lv 4294967296 Q2 = d := by rw [vQ2.out, VG.out]; exact HD.out
      have hd0 := HS.out.2.2.2
      cases hQ2 with
      | nil => exact absurd e2.symm (by simp [lv]; exact hd0)
      | row gd cd _ hQr =>
        go_wp2_with fail
        go_meet
        exact ⟨gd, cd, Q, Q2, rfl, hQ, dQ, Nat.le_trans lQ la, e1, hQr, dQ2, nQ2, Nat.le_trans lQ2 lc, e2, b1, hch⟩
  case rest =>
    clear b1 hch hA hC hG
    obtain ⟨gd, cd, N, D, rfl, hN, dN, lN, vN, hD, dD, nD, lD, vD, b1, hch⟩ := hcut
    have VN := Lib.hid vN
    have VD := Lib.hid vD
    clear vN vD
    go_wp2_with fail
    refine (text_any _ hN dN (by omega)).mono ?_
    rintro e w2 ⟨s, rfl, hs, c2⟩
    rw [VN.out] at hs
    have HS2 := Lib.hid hs
    replace hD := hD.keep c2 (by simp)
    replace b1 := b1.keep c2 (by simp)
    replace hch := hch.then c2
    clear hs c2 hN
    have hlt := b1.lt
    have b2 := Blk3.alloc w2 (.bool neg) (.string s) (.string ⟨#[]⟩) 25
    have ca := ((Chg.refl [] w2).alloc (.cells #[.bool neg, .string s, .string ⟨#[]⟩] 25))
    replace b1 := b1.keep ca (by simp)
    replace hD := hD.keep ca (by simp)
    replace hch := hch.then ca
    clear ca
    obtain ⟨g2, G2⟩ := name_it w2.heap.size
    rw [G2.out] at b2 hlt
    have hG2 := G2.out
    go_upto_region 8 with fail
    obtain ⟨w3, HW3⟩ := name_it (w2.alloc (.cells #[.bool neg, .string s, .string ⟨#[]⟩] 25))
    rw [HW3.out] at b1 b2 hD hch ⊢
    have hz : lv 4294967296 D ≠ 0 := by rw [VD.out]; exact HS.out.2.2.2
    have ww := ways1 nD hz
    have hD0 : D ≠ [] := by rintro rfl; exact hz rfl
    have hgc := hD.cell 0 (List.length_pos_iff.2 hD0)
    go_cut [49] (fun bv wx => wx = w3 ∧ bv = .bool (decide (lv 4294967296 D ≠ 1)))
    case first =>
      rcases ww with ⟨h1, h2⟩ | ⟨h1, h3, h2⟩ | ⟨h1, h3, h2⟩
      · have hl1 : decide ((1 : Int) < (D.length : Int)) = true := by simp; omega
        go_wp2_with fail
        go_meet
        exact ⟨rfl, by simp [h2]⟩
      · obtain ⟨x, HX⟩ := name_it (D.getD 0 0)
        rw [HX.out] at hgc h3
        have hl1 : decide ((1 : Int) < (D.length : Int)) = false := by simp; omega
        have hl2 : decide ((1 : Int) < (x : Int)) = true := by simp; omega
        have hl3 : 0 < D.length := by omega
        go_wp2_with fail
        go_meet
        exact ⟨rfl, by simp [h2]⟩
      · rw [h3] at hgc
        have hl1 : decide ((1 : Int) < (D.length : Int)) = false := by simp; omega
        have hl3 : 0 < D.length := by omega
        go_wp2_with fail
        go_meet
        exact ⟨rfl, by simp [h2]⟩
    case rest =>
    obtain ⟨rfl, rfl⟩ := hcut
    clear hgc ww
    have HL := Lib.hid hlt
    clear hlt
    by_cases h2 : lv 4294967296 D = 1
    · have hdd : decide (lv 4294967296 D ≠ 1) = false := by simp [h2]
      rw [hdd]
      have hd1 : d = 1 := by rw [← VD.out, h2]
      have b1c0 := b1.c0
      have b1c1 := b1.c1
      have b1c2 := b1.c2
      have b1f0 := b1.f0
      have b1f1 := b1.f1
      have b1f2 := b1.f2
      have b1l := b1.lt
      have b2c0 := b2.c0
      have b2c1 := b2.c1
      have b2c2 := b2.c2
      have b2f0 := b2.f0
      have b2f1 := b2.f1
      have b2f2 := b2.f2
      have b2l := b2.lt
      go_wp2_with fail
      have S := b1.store (.bool neg) (.string s) (.string ⟨#[]⟩)
      have he : Enc ⟨neg, s, ⟨#[]⟩⟩ (sq neg (lv 4294967296 A) (lv 4294967296 C)) := by
        have h := Enc_make (neg := neg) HS.out.2.2.2 HS.out.2.1 HS2.out (show Is ⟨#[]⟩ (if d = 1 then 0 else d) by rw [if_pos hd1]; exact Is_zero.2 rfl)
        rw [HS.out.1, show (neg && decide (n ≠ 0)) = neg by simp [HS.out.2.2.1]] at h
        exact h
      exact bodyPost_ret (v := .agg #[.bool neg, .string s, .string ⟨#[]⟩]) (by simp [results, Tryz.results104, go_sem, S.c0, S.c1, S.c2]) rfl ⟨⟨neg, s, ⟨#[]⟩⟩, rfl, he, hch.store3 (.inr (by omega)) _ _ _⟩
    · have hdd : decide (lv 4294967296 D ≠ 1) = true := by simp [h2]
      rw [hdd]
      have hd1 : d ≠ 1 := by rw [← VD.out]; exact h2
      go_wp2_with fail
      refine (text_row gd cd D _ hD dD (by omega)).mono ?_
      rintro e w4 ⟨t, rfl, ht, c4⟩
      rw [VD.out] at ht
      have HT := Lib.hid ht
      replace b1 := b1.keep c4 (by simp)
      replace b2 := b2.keep c4 (by simp)
      replace hch := hch.then c4
      clear ht c4 hD
      have b1c0 := b1.c0
      have b1c1 := b1.c1
      have b1c2 := b1.c2
      have b1f0 := b1.f0
      have b1f1 := b1.f1
      have b1f2 := b1.f2
      have b1l := b1.lt
      have b2c0 := b2.c0
      have b2c1 := b2.c1
      have b2c2 := b2.c2
      have b2f0 := b2.f0
      have b2f1 := b2.f1
      have b2f2 := b2.f2
      have b2l := b2.lt
      have hne := HL.out
      have hne1 : ¬ w.heap.size = g2 := by omega
      have hne2 : ¬ g2 = w.heap.size := by omega
      go_wp2_with fail
      have b1' := b1.keep ((Chg.refl [g2] w4).setCell (p := ⟨g2, 2, none⟩) (.inl (by simp)) (.string t)) (by simp; omega)
      have S := b1'.store (.bool neg) (.string s) (.string t)
      have he : Enc ⟨neg, s, t⟩ (sq neg (lv 4294967296 A) (lv 4294967296 C)) := by
        have h := Enc_make (neg := neg) HS.out.2.2.2 HS.out.2.1 HS2.out (show Is t (if d = 1 then 0 else d) by rw [if_neg hd1]; exact HT.out)
        rw [HS.out.1, show (neg && decide (n ≠ 0)) = neg by simp [HS.out.2.2.1]] at h
        exact h
      exact bodyPost_ret (v := .agg #[.bool neg, .string s, .string t]) (by simp [results, Tryz.results104, go_sem, S.c0, S.c1, S.c2]) rfl ⟨⟨neg, s, t⟩, rfl, he, (hch.setCell (p := ⟨g2, 2, none⟩) (.inr (by show _ ≤ g2; omega)) _).store3 (.inr (Nat.le_refl _)) _ _ _⟩
end Go.Proofs.YtogciehmdlfkfaaGreatDoor

/- Part Q15. -/

namespace Go.Proofs.YtogciehmdlfkfaaGreatDoor
open Go.RowKit Nd

set_option maxRecDepth 20000 in
set_option maxHeartbeats 1000000 in
theorem rMake_zero (neg : Bool) (N D : ByteArray) (w : World) (hD : D.size ≤ 1099511627776) (h : val D = 0) :
    Calls Tryz.prog 77 #[.bool neg, .string N, .string D] w fun e w' => e = .returned (.tuple #[.agg #[.bool false, .string ⟨#[]⟩, .string ⟨#[]⟩], .bool false]) ∧ Chg [] w w' := by
  have hch : Chg [] w (w.alloc (.cells #[.bool false, .string ⟨#[]⟩, .string ⟨#[]⟩] 25)) := (Chg.refl _ _).alloc _
  have b1 := Blk3.alloc w (.bool false) (.string ⟨#[]⟩) (.string ⟨#[]⟩) 25
  have HZ := Lib.hid h
  clear h
  go_enter Tryz.func77, Tryz.ntmps77
  go_wp2_with fail
  refine (limbs_any D _ hD).mono ?_
  rintro e w1 ⟨gb, cb, C, rfl, hC, hgb, dC, nC, vC, lC, c1⟩
  obtain rfl : C = [] := (lv_zero_iff (B := 4294967296) (by omega) C nC).1 (by rw [vC]; exact HZ.out)
  replace b1 := b1.keep c1 (by simp)
  replace hch := hch.then c1
  clear c1 hC hgb dC nC vC lC
  have S := b1.store (.bool false) (.string ⟨#[]⟩) (.string ⟨#[]⟩)
  have hchS := hch.store3 (.inr (Nat.le_refl _)) (.bool false) (.string ⟨#[]⟩) (.string ⟨#[]⟩)
  have b1c0 := b1.c0
  have b1c1 := b1.c1
  have b1c2 := b1.c2
  have b1f0 := b1.f0
  have b1f1 := b1.f1
  have b1f2 := b1.f2
  have b1l := b1.lt
  go_wp2_with fail
  exact bodyPost_ret (v := .tuple #[.agg #[.bool false, .string ⟨#[]⟩, .string ⟨#[]⟩], .bool false]) (by simp [results, Tryz.results77, go_sem, S.c0, S.c1, S.c2]) rfl ⟨rfl, hchS⟩

set_option maxRecDepth 20000 in
set_option maxHeartbeats 1000000 in
theorem rMake_any (neg : Bool) (N D : ByteArray) (w : World) (hN : N.size ≤ 1099511627776) (hD : D.size ≤ 1099511627776) (h : val D ≠ 0) :
    Calls Tryz.prog 77 #[.bool neg, .string N, .string D] w fun e w' => ∃ x, e = .returned (.tuple #[.agg #[.bool x.neg, .string x.num, .string x.den], .bool true]) ∧ Enc x (sq neg (val N) (val D)) ∧ Chg [] w w' := by
  have hch : Chg [] w (w.alloc (.cells #[.bool false, .string ⟨#[]⟩, .string ⟨#[]⟩] 25)) := (Chg.refl _ _).alloc _
  have b1 := Blk3.alloc w (.bool false) (.string ⟨#[]⟩) (.string ⟨#[]⟩) 25
  have HZ := Lib.hid h
  clear h
  go_enter Tryz.func77, Tryz.ntmps77
  go_wp2_with fail
  refine (limbs_any D _ hD).mono ?_
  rintro e w1 ⟨gb, cb, C, rfl, hC, hgb, dC, nC, vC, lC, c1⟩
  have VC := Lib.hid vC
  have hC0 : C ≠ [] := by rintro rfl; exact HZ.out vC.symm
  have hnb : ((C.length : Int) == 0) = false := by
    have := List.length_pos_iff.2 hC0
    rw [beq_eq_false_iff_ne]; omega
  replace b1 := b1.keep c1 (by simp)
  replace hch := hch.then c1
  clear c1 vC hgb hC0
  go_wp2_with fail
  refine (limbs_any N _ hN).mono ?_
  rintro e w2 ⟨ga, ca, A, rfl, hA, hga, dA, nA, vA, lA, c1⟩
  have VA := Lib.hid vA
  replace hC := hC.keep c1 (by simp)
  replace b1 := b1.keep c1 (by simp)
  replace hch := hch.then c1
  clear c1 vA hga hnb
  go_wp2_with fail
  by_cases hz : lv 4294967296 A = 0
  · obtain rfl : A = [] := (lv_zero_iff (B := 4294967296) (by omega) A nA).1 hz
    refine (reduced_zero neg ga ca _ _).mono ?_
    rintro e w3 ⟨rfl, c1⟩
    replace b1 := b1.keep c1 (by simp)
    replace hch := hch.then c1
    clear c1 hA hC
    have S := b1.store (.bool false) (.string ⟨#[]⟩) (.string ⟨#[]⟩)
    have hchS := hch.store3 (.inr (Nat.le_refl _)) (.bool false) (.string ⟨#[]⟩) (.string ⟨#[]⟩)
    have he : Enc q0 (sq neg (val N) (val D)) := by rw [← VA.out, hz, sq_zero]; exact Enc_zero
    have HE := Lib.hid he
    clear he
    have b1c0 := b1.c0
    have b1c1 := b1.c1
    have b1c2 := b1.c2
    have b1f0 := b1.f0
    have b1f1 := b1.f1
    have b1f2 := b1.f2
    have b1l := b1.lt
    go_wp2_with fail
    exact bodyPost_ret (v := .tuple #[.agg #[.bool false, .string ⟨#[]⟩, .string ⟨#[]⟩], .bool true]) (by simp [results, Tryz.results77, go_sem, S.c0, S.c1, S.c2]) rfl ⟨q0, rfl, HE.out, hchS⟩
  · refine (reduced_any neg ga ca gb cb A C _ hA hC dA dC nA nC (by omega) (by omega) hz (by rw [VC.out]; exact HZ.out)).mono ?_
    rintro e w3 ⟨x, rfl, hx, c1⟩
    rw [VA.out, VC.out] at hx
    have HX := Lib.hid hx
    replace b1 := b1.keep c1 (by simp)
    replace hch := hch.then c1
    clear c1 hA hC hx
    have S := b1.store (.bool x.neg) (.string x.num) (.string x.den)
    have hchS := hch.store3 (.inr (Nat.le_refl _)) (.bool x.neg) (.string x.num) (.string x.den)
    have b1c0 := b1.c0
    have b1c1 := b1.c1
    have b1c2 := b1.c2
    have b1f0 := b1.f0
    have b1f1 := b1.f1
    have b1f2 := b1.f2
    have b1l := b1.lt
    go_wp2_with fail
    exact bodyPost_ret (v := .tuple #[.agg #[.bool x.neg, .string x.num, .string x.den], .bool true]) (by simp [results, Tryz.results77, go_sem, S.c0, S.c1, S.c2]) rfl ⟨x, rfl, HX.out, hchS⟩

theorem ok_q0 : okB q0 = true := Enc_zero.ok
set_option maxRecDepth 20000 in
set_option maxHeartbeats 1000000 in
theorem rsize_any (n : Int) (w : World) (h1 : -9223372036854775808 ≤ n) (h2 : n ≤ 9223372036854775807) :
    Calls Tryz.prog 78 #[.int .i64 n] w fun e w' => e = .returned (.int .u64 (n.natAbs : Nat)) ∧ w = w' := by
  by_cases h0 : n < 0
  · obtain ⟨j, hj⟩ : ∃ j : Nat, n = -((j : Int) + 1) := ⟨(n + 1).natAbs, by omega⟩
    have e1 : Hid (n.natAbs = j + 1) := by show _ = _; omega
    have hj1 : j ≤ 9223372036854775807 := by omega
    have e2 : n + 1 = -(j : Int) := by omega
    rw [e1.out]
    clear hj
    go_enter Tryz.func78, Tryz.ntmps78
    go_wp2_with fail
    go_ret
    exact ⟨ret_eq (by congr 1), rfl⟩
  · obtain ⟨m, rfl⟩ : ∃ m : Nat, n = (m : Int) := ⟨n.toNat, by omega⟩
    rw [Int.natAbs_natCast]
    go_enter Tryz.func78, Tryz.ntmps78
    go_wp2_with fail
    go_ret
    exact ⟨rfl, rfl⟩

set_option maxRecDepth 20000 in
set_option maxHeartbeats 1000000 in
theorem rInt_any (n : Int) (w : World) (h1 : -9223372036854775808 ≤ n) (h2 : n ≤ 9223372036854775807) :
    Calls Tryz.prog 133 #[.int .i64 n] w fun e w' => ∃ x, e = .returned (.agg #[.bool x.neg, .string x.num, .string x.den]) ∧ Enc x (n : Rat) ∧ Chg [] w w' := by
  have b1 := Blk3.alloc w (.bool false) (.string ⟨#[]⟩) (.string ⟨#[]⟩) 25
  have hch : Chg [] w (w.alloc (.cells #[.bool false, .string ⟨#[]⟩, .string ⟨#[]⟩] 25)) := (Chg.refl _ _).alloc _
  obtain ⟨neg, HN⟩ := name_it (decide (n < 0))
  have hneg := HN.out
  go_enter Tryz.func133, Tryz.ntmps133
  go_wp2_with fail
  refine (rsize_any n _ h1 h2).mono ?_
  rintro e _ ⟨rfl, rfl⟩
  go_wp2_with fail
  refine (rfromUint_any n.natAbs _ (by omega)).mono ?_
  rintro e w1 ⟨s, rfl, hs, c1⟩
  have HS := Lib.hid hs
  replace hch := hch.then c1
  replace b1 := b1.keep c1 (by simp)
  clear hs c1
  have S := b1.store (.bool neg) (.string s) (.string ⟨#[]⟩)
  have hchS := hch.store3 (.inr (Nat.le_refl _)) (.bool neg) (.string s) (.string ⟨#[]⟩)
  have b1c0 := b1.c0
  have b1c1 := b1.c1
  have b1c2 := b1.c2
  have b1f0 := b1.f0
  have b1f1 := b1.f1
  have b1f2 := b1.f2
  have b1l := b1.lt
  go_wp2_with fail
  have he : Enc ⟨neg, s, ⟨#[]⟩⟩ (n : Rat) := ⟨by rw [← HN.out]; exact decide_eq_decide.2 (by simp), by simpa using HS.out, by simpa using Is_zero.2 rfl⟩
  exact bodyPost_ret (v := .agg #[.bool neg, .string s, .string ⟨#[]⟩]) (by simp [results, Tryz.results133, go_sem, S.c0, S.c1, S.c2]) rfl ⟨⟨neg, s, ⟨#[]⟩⟩, rfl, he, hchS⟩

set_option maxRecDepth 20000 in
set_option maxHeartbeats 1000000 in
theorem rFraction_any (a b : Int) (w : World) (h1 : -9223372036854775808 ≤ a) (h2 : a ≤ 9223372036854775807) (h3 : -9223372036854775808 ≤ b) (h4 : b ≤ 9223372036854775807) (hb : b ≠ 0) :
    Calls Tryz.prog 51 #[.int .i64 a, .int .i64 b] w fun e w' => ∃ x, e = .returned (.tuple #[.agg #[.bool x.neg, .string x.num, .string x.den], .bool true]) ∧ Enc x (sq (fsg a b) a.natAbs b.natAbs) ∧ Chg [] w w' := by
  have hch : Chg [] w (w.alloc (.cells #[.bool false, .string ⟨#[]⟩, .string ⟨#[]⟩] 25)) := (Chg.refl _ _).alloc _
  have B0 := Lib.hid (Blk3.alloc w (.bool false) (.string ⟨#[]⟩) (.string ⟨#[]⟩) 25)
  have HB := Lib.hid hb
  clear hb
  obtain ⟨na, HNA⟩ := name_it (decide (a < 0))
  obtain ⟨nb, HNB⟩ := name_it (decide (b < 0))
  have hf : Hid (fsg a b = (na != nb)) := by show _ = _; unfold fsg; rw [HNA.out, HNB.out]
  rw [hf.out]
  have ha := HNA.out
  have hbb := HNB.out
  obtain ⟨sg, HSG⟩ := name_it (na != nb)
  have hsg := HSG.out
  rw [hsg]
  go_enter Tryz.func51, Tryz.ntmps51
  go_wp2_with fail
  refine (rsize_any a _ h1 h2).mono ?_
  rintro e _ ⟨rfl, rfl⟩
  go_wp2_with fail
  refine (rfromUint_any a.natAbs _ (by omega)).mono ?_
  rintro e w1 ⟨s, rfl, hs, c1⟩
  have HS := Lib.hid hs
  have hch1 := hch.then c1
  have B1 := Lib.hid (B0.out.keep c1 (by simp))
  clear hs c1 hch B0
  go_wp2_with fail
  refine (rsize_any b _ h3 h4).mono ?_
  rintro e _ ⟨rfl, rfl⟩
  go_wp2_with fail
  refine (rfromUint_any b.natAbs _ (by omega)).mono ?_
  rintro e w2 ⟨t, rfl, ht, c2⟩
  have HT := Lib.hid ht
  have hch2 := hch1.then c2
  have B2 := Lib.hid (B1.out.keep c2 (by simp))
  clear ht c2 hch1 B1
  go_wp2_with fail
  have zs : s.size ≤ 1099511627776 := Nat.le_trans (Is_size HS.out 8 (by omega)) (by omega)
  have zt : t.size ≤ 1099511627776 := Nat.le_trans (Is_size HT.out 8 (by omega)) (by omega)
  refine (rMake_any _ s t _ zs zt (by rw [Is_val HT.out]; have := HB.out; omega)).mono ?_
  rintro e w3 ⟨x, rfl, hx, c3⟩
  rw [show (!(na == nb)) = sg from HSG.out] at hx
  rw [Is_val HS.out, Is_val HT.out] at hx
  have HX := Lib.hid hx
  have hch3 := hch2.then c3
  have B3 := B2.out.keep c3 (by simp)
  have B3' := Lib.hid B3
  obtain ⟨k0, k1, k2, f0, f1, f2, l1⟩ := B3
  clear hx c3 hch2 B2
  go_wp2_with fail
  have S := B3'.out.store (.bool x.neg) (.string x.num) (.string x.den)
  exact bodyPost_ret (v := .tuple #[.agg #[.bool x.neg, .string x.num, .string x.den], .bool true]) (by simp [results, Tryz.results51, go_sem, S.c0, S.c1, S.c2]) rfl ⟨x, rfl, HX.out, hch3.store3 (.inr (by omega)) _ _ _⟩

set_option maxRecDepth 20000 in
set_option maxHeartbeats 1000000 in
theorem rFraction_zero (a : Int) (w : World) (h1 : -9223372036854775808 ≤ a) (h2 : a ≤ 9223372036854775807) :
    Calls Tryz.prog 51 #[.int .i64 a, .int .i64 0] w fun e w' => e = .returned (.tuple #[.agg #[.bool false, .string ⟨#[]⟩, .string ⟨#[]⟩], .bool false]) ∧ Chg [] w w' := by
  have hch : Chg [] w (w.alloc (.cells #[.bool false, .string ⟨#[]⟩, .string ⟨#[]⟩] 25)) := (Chg.refl _ _).alloc _
  have B0 := Lib.hid (Blk3.alloc w (.bool false) (.string ⟨#[]⟩) (.string ⟨#[]⟩) 25)
  obtain ⟨na, HNA⟩ := name_it (decide (a < 0))
  have ha := HNA.out
  go_enter Tryz.func51, Tryz.ntmps51
  go_wp2_with fail
  refine (rsize_any a _ h1 h2).mono ?_
  rintro e _ ⟨rfl, rfl⟩
  go_wp2_with fail
  refine (rfromUint_any a.natAbs _ (by omega)).mono ?_
  rintro e w1 ⟨s, rfl, hs, c1⟩
  have HS := Lib.hid hs
  have hch1 := hch.then c1
  have B1 := Lib.hid (B0.out.keep c1 (by simp))
  clear hs c1 hch B0
  go_wp2_with fail
  refine (rsize_any 0 _ (by omega) (by omega)).mono ?_
  rintro e _ ⟨rfl, rfl⟩
  go_wp2_with fail
  refine (rfromUint_any (0 : Int).natAbs _ (by omega)).mono ?_
  rintro e w2 ⟨t, rfl, ht, c2⟩
  have HT := Lib.hid ht
  have hch2 := hch1.then c2
  have B2 := Lib.hid (B1.out.keep c2 (by simp))
  clear ht c2 hch1 B1
  go_wp2_with fail
  have zs : s.size ≤ 1099511627776 := Nat.le_trans (Is_size HS.out 8 (by omega)) (by omega)
  have zt : t.size ≤ 1099511627776 := Nat.le_trans (Is_size HT.out 8 (by simp)) (by omega)
  refine (rMake_zero _ s t _ zt (by rw [Is_val HT.out]; rfl)).mono ?_
  rintro e w3 ⟨rfl, c3⟩
  have hch3 := hch2.then c3
  have B3 := B2.out.keep c3 (by simp)
  have B3' := Lib.hid B3
  obtain ⟨k0, k1, k2, f0, f1, f2, l1⟩ := B3
  clear c3 hch2 B2
  go_wp2_with fail
  have S := B3'.out.store (.bool false) (.string ⟨#[]⟩) (.string ⟨#[]⟩)
  exact bodyPost_ret (v := .tuple #[.agg #[.bool false, .string ⟨#[]⟩, .string ⟨#[]⟩], .bool false]) (by simp [results, Tryz.results51, go_sem, S.c0, S.c1, S.c2]) rfl ⟨rfl, hch3.store3 (.inr (by omega)) _ _ _⟩

end Go.Proofs.YtogciehmdlfkfaaGreatDoor

/- Part Q16. -/

namespace Go.Proofs.YtogciehmdlfkfaaGreatDoor
open Go.RowKit Nd

set_option maxRecDepth 20000 in
set_option maxHeartbeats 1000000 in
theorem rFix_any (x : Q3) (w : World) (h1 : x.num.size ≤ 1099511627776) (h2 : x.den.size ≤ 1099511627776) :
    Calls Tryz.prog 56 #[.agg #[.bool x.neg, .string x.num, .string x.den]] w fun e w' => ∃ y, e = .returned (.agg #[.bool y.neg, .string y.num, .string y.den]) ∧ Enc y (ratOf x) ∧ Chg [] w w' := by
  obtain ⟨b1, b2, hch⟩ := box1 w x 25
  by_cases hok : okB x = true
  · have HE := Lib.hid (ok_enc hok)
    go_enter Tryz.func56, Tryz.ntmps56
    go_wp2_with fail
    obtain ⟨w0, HW0⟩ := name_it ((w.alloc (.cells #[.bool x.neg, .string x.num, .string x.den] 25)).alloc (.cells #[.bool false, .string ⟨#[]⟩, .string ⟨#[]⟩] 25))
    rw [HW0.out] at b1 b2 hch
    rw [HW0.out]
    refine (rValid_any x _ h1 h2).mono ?_
    rintro e w1 ⟨rfl, c1⟩
    rw [hok]
    replace b1 := b1.keep c1 (by simp)
    replace b2 := b2.keep c1 (by simp)
    replace hch := hch.then c1
    clear c1
    have b1c0 := b1.c0
    have b1c1 := b1.c1
    have b1c2 := b1.c2
    have b1f0 := b1.f0
    have b1f1 := b1.f1
    have b1f2 := b1.f2
    have b1l := b1.lt
    have b2c0 := b2.c0
    have b2c1 := b2.c1
    have b2c2 := b2.c2
    have b2f0 := b2.f0
    have b2f1 := b2.f1
    have b2f2 := b2.f2
    have b2l := b2.lt
    go_wp2_with fail
    have S := b2.store (.bool x.neg) (.string x.num) (.string x.den)
    exact bodyPost_ret (v := .agg #[.bool x.neg, .string x.num, .string x.den]) (by simp [results, Tryz.results56, go_sem, S.c0, S.c1, S.c2]) rfl ⟨x, rfl, HE.out, hch.store3 (.inr (by omega)) _ _ _⟩
  · rw [Bool.not_eq_true] at hok
    have HE : Hid (Enc q0 (ratOf x)) := by show Enc _ _; rw [bad_rat hok]; exact Enc_zero
    go_enter Tryz.func56, Tryz.ntmps56
    go_wp2_with fail
    obtain ⟨w0, HW0⟩ := name_it ((w.alloc (.cells #[.bool x.neg, .string x.num, .string x.den] 25)).alloc (.cells #[.bool false, .string ⟨#[]⟩, .string ⟨#[]⟩] 25))
    rw [HW0.out] at b1 b2 hch
    rw [HW0.out]
    refine (rValid_any x _ h1 h2).mono ?_
    rintro e w1 ⟨rfl, c1⟩
    rw [hok]
    replace b1 := b1.keep c1 (by simp)
    replace b2 := b2.keep c1 (by simp)
    replace hch := hch.then c1
    clear c1
    have b1c0 := b1.c0
    have b1c1 := b1.c1
    have b1c2 := b1.c2
    have b1f0 := b1.f0
    have b1f1 := b1.f1
    have b1f2 := b1.f2
    have b1l := b1.lt
    have b2c0 := b2.c0
    have b2c1 := b2.c1
    have b2c2 := b2.c2
    have b2f0 := b2.f0
    have b2f1 := b2.f1
    have b2f2 := b2.f2
    have b2l := b2.lt
    go_wp2_with fail
    have S := b2.store (.bool false) (.string ⟨#[]⟩) (.string ⟨#[]⟩)
    exact bodyPost_ret (v := .agg #[.bool false, .string ⟨#[]⟩, .string ⟨#[]⟩]) (by simp [results, Tryz.results56, go_sem, S.c0, S.c1, S.c2]) rfl ⟨q0, rfl, HE.out, hch.store3 (.inr (by omega)) _ _ _⟩

end Go.Proofs.YtogciehmdlfkfaaGreatDoor
