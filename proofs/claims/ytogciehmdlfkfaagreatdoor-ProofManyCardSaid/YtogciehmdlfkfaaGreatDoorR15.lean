/-
  Walks of the reference: divide, common, NatDivide, GCD.
-/
import Derived.Test.YtogciehmdlfkfaaGreatDoorR14
namespace Go.Proofs.YtogciehmdlfkfaaGreatDoor
open Go.RowKit Nd

/-- What divide returns. -/
structure RDiv (w w' : World) (A C : List Nat) (qv rv : Value) (Q R : List Nat) : Prop where
  q : Sl w' qv Q
  r : ∃ g c, rv = .slice (some ⟨g, 0, none⟩) R.length c ∧ Row 120 .u32 w' g c R
  dQ : dig 4294967296 Q
  dR : dig 4294967296 R
  nQ : noz Q
  nR : noz R
  vQ : lv 4294967296 Q = lv 4294967296 A / lv 4294967296 C
  vR : lv 4294967296 R = lv 4294967296 A % lv 4294967296 C
  lQ : Q.length ≤ A.length
  lR : R.length ≤ A.length
  chg : Chg [] w w'

set_option maxRecDepth 20000 in
set_option maxHeartbeats 1000000 in
theorem rdivide_any (ga ca gb cb : Nat) (A C : List Nat) (w : World) (hA : Row 120 .u32 w ga ca A) (hC : Row 120 .u32 w gb cb C) (dA : dig 4294967296 A) (dC : dig 4294967296 C) (nA : noz A) (nC : noz C)
    (la : A.length ≤ 1099511627775) (hC0 : C ≠ []) :
    Calls Tryz.prog 135 #[.slice (some ⟨ga, 0, none⟩) A.length ca, .slice (some ⟨gb, 0, none⟩) C.length cb] w fun e w' => ∃ qv rv, e = .returned (.tuple #[qv, rv]) ∧ ∃ Q R, RDiv w w' A C qv rv Q R := by
  obtain ⟨r, HR⟩ := name_it (ord (lv 4294967296 A) (lv 4294967296 C))
  obtain ⟨na, HNA⟩ := name_it A.length
  obtain ⟨n, HN⟩ := name_it C.length
  have hn0 : 0 < n := by rw [← HN.out]; exact List.length_pos_iff.2 hC0
  rw [HNA.out] at la
  by_cases hlt : lv 4294967296 A < lv 4294967296 C
  · have hr : r = -1 := by rw [← HR.out]; exact ord_lt hlt
    subst hr
    have vQ : Hid (0 = lv 4294967296 A / lv 4294967296 C) := (Nat.div_eq_of_lt hlt).symm
    have vR : Hid (lv 4294967296 A = lv 4294967296 A % lv 4294967296 C) := (Nat.mod_eq_of_lt hlt).symm
    clear hlt
    go_enter Tryz.func135, Tryz.ntmps135
    go_wp2_with fail
    refine (order_any ga ca gb cb A C _ hA hC dA dC nA nC).mono ?_
    rintro e w1 ⟨rfl, c1⟩
    rw [HR.out]
    have hA1 := hA.keep c1 (by simp)
    go_wp2_with fail
    go_ret2
    exact ⟨_, _, rfl, [], A, Sl.nil, ⟨ga, ca, rfl, hA1⟩, dig_nil _, dA, noz_nil, nA, vQ.out, vR.out, by simp, Nat.le_refl _, c1⟩
  · have hr : 0 ≤ r := by
      rw [← HR.out]; unfold ord; rw [if_neg hlt]; split <;> omega
    have HGE := Lib.hid (Nat.le_of_not_lt hlt)
    clear hlt
    have hcl : Hid (C.length ≤ A.length) := len_le_of_lv (by omega) C A dA nC HGE.out
    by_cases h1 : n = 1
    · have hcell := hC.cell 0 (by rw [HN.out]; omega)
      have hdp := noz_last nC HN.out hn0
      have hv1 := lv_one 4294967296 C (by rw [HN.out]; exact h1)
      have hdb := dig_getD (B := 4294967296) (by omega) dC 0
      rw [h1] at hdp
      obtain ⟨d, HD⟩ := name_it (C.getD 0 0)
      rw [show 1 - 1 = 0 from rfl, HD.out] at hdp
      rw [HD.out] at hcell hdb hv1
      have HV1 := Lib.hid hv1
      clear hv1
      subst h1
      go_enter Tryz.func135, Tryz.ntmps135
      go_wp2_with fail
      refine (order_any ga ca gb cb A C _ hA hC dA dC nA nC).mono ?_
      rintro e w1 ⟨rfl, c1⟩
      rw [HR.out, HN.out]
      have hA1 := hA.keep c1 (by simp)
      have hC1 := hC.keep c1 (by simp)
      have hcell1 := hC1.cell 0 (by rw [HN.out]; omega)
      rw [HD.out] at hcell1
      clear hcell hA hC
      go_wp2_with fail
      refine (short_row ga ca d A _ hA1 dA (by rw [HNA.out]; omega) hdp hdb).mono ?_
      rintro e w2 ⟨g', c', rr, L, rfl, hL, _, lL, dL, nL, vL, rfl, c2⟩
      have hrb : lv 4294967296 A % d < 4294967296 := Nat.lt_trans (Nat.mod_lt _ hdp) hdb
      obtain ⟨x, HX⟩ := name_it (lv 4294967296 A % d)
      rw [HX.out] at hrb ⊢
      have hrow : Row 120 .u32 (w2.alloc (.cells #[.int .u32 (x : Int)] 120)) w2.heap.size 1 [x] := Row.of_alloc w2 _ [x] rfl (by simp)
      have hL2 := hL.keep ((Chg.refl [] w2).alloc (.cells #[.int .u32 (x : Int)] 120)) (by simp)
      have hch : Chg [] w (w2.alloc (.cells #[.int .u32 (x : Int)] 120)) := (c1.then c2).alloc _
      have VL := Lib.hid vL
      clear vL c1 c2 hL
      go_wp2_with fail
      refine (strip_row w2.heap.size 1 [x] _ hrow).mono ?_
      rintro e w3 ⟨rfl, rfl⟩
      have hrt : Row _ _ _ _ _ (trim [x]) := hrow.take (tl [x]) (tl_le [x])
      go_wp2_with fail
      go_ret2
      refine ⟨_, _, ret_eq rfl, L, trim [x], Sl.row _ _ _ hL2, ⟨_, _, by rw [trim_length]; rfl, hrt⟩, dL, trim_dig (dig_cons hrb (dig_nil _)), nL, trim_noz _, by rw [VL.out, HV1.out], by rw [lv_trim, HV1.out, HX.out]; simp, lL, ?_, hch⟩
      rw [trim_length]
      have h1 := tl_le [x]
      have h2 := hcl.out
      rw [HN.out] at h2
      exact Nat.le_trans h1 h2
    · have h2 : ((n : Int) == 1) = false := by rw [beq_eq_false_iff_ne]; omega
      have hn2 : Hid (2 ≤ C.length) := by show 2 ≤ _; rw [HN.out]; omega
      clear h1
      go_enter Tryz.func135, Tryz.ntmps135
      go_wp2_with fail
      refine (order_any ga ca gb cb A C _ hA hC dA dC nA nC).mono ?_
      rintro e w1 ⟨rfl, c1⟩
      rw [HR.out, HN.out]
      have hA1 := hA.keep c1 (by simp)
      have hC1 := hC.keep c1 (by simp)
      clear hA hC
      go_wp2_with fail
      rw [← HN.out]
      refine (long_row ga ca gb cb A C _ hA1 hC1 dA dC nC (by rw [HNA.out]; exact la) hn2.out hcl.out).mono ?_
      rintro e w2 ⟨g1, c1', g2, c2', Q, R, rfl, hQ, hR, _, _, dQ, dR, nQ, nR, vQ, vR, lQ, lR, c2⟩
      have hch := c1.then c2
      have VQ := Lib.hid vQ
      have VR := Lib.hid vR
      clear vQ vR c1 c2
      go_wp2_with fail
      go_ret2
      exact ⟨_, _, rfl, Q, R, Sl.row _ _ _ hQ, ⟨_, _, rfl, hR⟩, dQ, dR, nQ, nR, VQ.out, VR.out, lQ, lR, hch⟩

set_option maxRecDepth 20000 in
set_option maxHeartbeats 1000000 in
theorem common_any (ga ca gb cb : Nat) (A C : List Nat) (w : World) (hA : Row 120 .u32 w ga ca A) (hC : Row 120 .u32 w gb cb C) (dA : dig 4294967296 A) (dC : dig 4294967296 C) (nA : noz A) (nC : noz C)
    (la : A.length ≤ 1099511627775) (lc : C.length ≤ 1099511627775) :
    Calls Tryz.prog 134 #[.slice (some ⟨ga, 0, none⟩) A.length ca, .slice (some ⟨gb, 0, none⟩) C.length cb] w fun e w' => ∃ g c G, e = .returned (.slice (some ⟨g, 0, none⟩) G.length c) ∧
      Row 120 .u32 w' g c G ∧ dig 4294967296 G ∧ noz G ∧ lv 4294967296 G = Nat.gcd (lv 4294967296 A) (lv 4294967296 C) ∧ G.length ≤ 1099511627775 ∧ Chg [] w w' := by
  obtain ⟨d, HD⟩ := name_it (Nat.gcd (lv 4294967296 A) (lv 4294967296 C))
  rw [HD.out]
  go_enter Tryz.func134, Tryz.ntmps134
  go_wp2_with fail
  go_loopg [0, 1] (lv 4294967296 C) (fun k av bv wr => ∃ (ga ca gb cb : Nat) (A C : List Nat), av = .slice (some ⟨ga, 0, none⟩) A.length ca ∧ bv = .slice (some ⟨gb, 0, none⟩) C.length cb ∧
    Row 120 .u32 wr ga ca A ∧ Row 120 .u32 wr gb cb C ∧ dig 4294967296 A ∧ dig 4294967296 C ∧ noz A ∧ noz C ∧ A.length ≤ 1099511627775 ∧ C.length ≤ 1099511627775 ∧ lv 4294967296 C = k ∧ Nat.gcd (lv 4294967296 A) (lv 4294967296 C) = d ∧ Chg [] w wr)
  case atStart => exact ⟨ga, ca, gb, cb, A, C, rfl, rfl, hA, hC, dA, dC, nA, nC, la, lc, rfl, HD.out, Chg.refl _ _⟩
  case round =>
    clear hA hC dA dC nA nC la lc HD
    obtain ⟨ga, ca, gb, cb, A, C, rfl, rfl, hA, hC, dA, dC, nA, nC, la, lc, hk, hd, hch⟩ := hrel
    have HK := Lib.hid hk
    have HD := Lib.hid hd
    clear hk hd
    obtain ⟨n, HN⟩ := name_it C.length
    have LA := Lib.hid la
    have LC := Lib.hid lc
    clear la lc
    by_cases h0 : 0 < n
    · have hC0 : C ≠ [] := by rintro rfl; simp [Hid] at HN; omega
      have hpos : 0 < lv 4294967296 C := lv_pos (by omega) nC hC0
      have HPOS := Lib.hid hpos
      clear hpos
      rw [HN.out]
      go_wp2_with fail
      rw [← HN.out]
      refine (rdivide_any ga ca gb cb A C _ hA hC dA dC nA nC LA.out hC0).mono ?_
      rintro e w1 ⟨qv, rv, rfl, Q, R, hD⟩
      obtain ⟨g, c, rfl, hR⟩ := hD.r
      have hC1 := hC.keep hD.chg (by simp)
      have hch1 := hch.then hD.chg
      have dR := hD.dR
      have nR := hD.nR
      have lR := Lib.hid hD.lR
      have hlt : Hid (lv 4294967296 R < gk) := Lib.hid (by rw [hD.vR, ← HK.out]; exact Nat.mod_lt _ HPOS.out)
      have hgd : Hid (Nat.gcd (lv 4294967296 C) (lv 4294967296 R) = d) := Lib.hid (by rw [hD.vR, Nat.gcd_comm, ← Nat.gcd_rec, Nat.gcd_comm]; exact HD.out)
      clear hD hA hC hch h0
      go_wp2_with fail
      go_roundg (lv 4294967296 R)
      case measure => exact hlt.out
      case rel => exact ⟨gb, cb, g, c, C, R, rfl, rfl, hC1, hR, dC, dR, nC, nR, LC.out, Nat.le_trans lR.out LA.out, rfl, hgd.out, hch1⟩
    · have hn : n = 0 := by omega
      have hv : lv 4294967296 C = 0 := (lv_nil_iff (B := 4294967296) (by omega) nC).1 (by rw [HN.out]; exact hn)
      have HE : Hid (lv 4294967296 A = d) := by have := HD.out; rw [hv, Nat.gcd_zero_right] at this; exact this
      rw [HN.out]
      clear hv h0
      subst hn
      go_wp2_with fail
      go_ret
      exact ⟨ga, ca, A, rfl, hA, dA, nA, HE.out, LA.out, hch⟩

set_option maxRecDepth 20000 in
set_option maxHeartbeats 400000 in
theorem rGCD_any (a b : ByteArray) (w : World) (ha : a.size ≤ 1099511627776) (hb : b.size ≤ 1099511627776) :
    Calls Tryz.prog 111 #[.string a, .string b] w fun e w' => ∃ s, e = .returned (.string s) ∧ Is s (Nat.gcd (val a) (val b)) ∧ Chg [] w w' := by
  go_enter Tryz.func111, Tryz.ntmps111
  go_wp2_with fail
  refine (limbs_any a _ ha).mono ?_
  rintro e w1 ⟨ga, ca, A, rfl, hA, hga, dA, nA, vA, lA, cA⟩
  have VA := Lib.hid vA
  clear vA
  go_wp2_with fail
  refine (limbs_any b _ hb).mono ?_
  rintro e w2 ⟨gb, cb, C, rfl, hC, hgb, dC, nC, vC, lC, cC⟩
  have VC := Lib.hid vC
  have hA1 := hA.keep cC (by simp)
  have hch := cA.then cC
  clear vC hA cA cC
  go_wp2_with fail
  refine (common_any ga ca gb cb A C _ hA1 hC dA dC nA nC (by omega) (by omega)).mono ?_
  rintro e w3 ⟨g, c, G, rfl, hG, dG, nG, vG, lG, c3⟩
  have VG := Lib.hid vG
  have hch1 := hch.then c3
  clear vG c3 hch
  go_wp2_with fail
  refine (text_row g c G _ hG dG (by omega)).mono ?_
  rintro e w4 ⟨s, rfl, hs, c4⟩
  have HS := Lib.hid hs
  clear hs
  go_wp2_with fail
  go_ret
  have h1 := HS.out
  rw [VG.out, VA.out, VC.out] at h1
  exact ⟨s, rfl, h1, hch1.then c4⟩

end Go.Proofs.YtogciehmdlfkfaaGreatDoor
