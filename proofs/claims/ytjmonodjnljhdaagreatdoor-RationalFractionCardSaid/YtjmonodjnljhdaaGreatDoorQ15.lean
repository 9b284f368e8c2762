/-
  Walks of package rational: the reference makes a number; RationalMake.
-/
import Derived.Test.YtjmonodjnljhdaaGreatDoorQ14
namespace Go.Proofs.YtjmonodjnljhdaaGreatDoor
open Go.RowKit Nd

set_option maxRecDepth 20000 in
set_option maxHeartbeats 1000000 in
theorem rMake_zero (neg : Bool) (N D : ByteArray) (w : World) (hD : D.size ≤ 1099511627776) (h : val D = 0) :
    Calls Tryz.prog 58 #[.bool neg, .string N, .string D] w fun e w' => e = .returned (.tuple #[.agg #[.bool false, .string ⟨#[]⟩, .string ⟨#[]⟩], .bool false]) ∧ Chg [] w w' := by
  have hch : Chg [] w (w.alloc (.cells #[.bool false, .string ⟨#[]⟩, .string ⟨#[]⟩] 23)) := (Chg.refl _ _).alloc _
  have b1 := Blk3.alloc w (.bool false) (.string ⟨#[]⟩) (.string ⟨#[]⟩) 23
  have HZ := Lib.hid h
  clear h
  go_enter Tryz.func58, Tryz.ntmps58
  go_wp2_with fail
  refine (limbs_any D _ hD).mono ?_
  rintro e w1 ⟨gb, cb, C, rfl, hC, hgb, dC, nC, vC, lC, c1⟩
  obtain rfl : C = [] := (lv_zero_iff (B := 4294967296) (by omega) C nC).1 (by rw [vC]; exact HZ.out)
  replace b1 := b1.keep c1 (by simp)
  replace hch := hch.then c1
  clear c1 hC hgb dC nC vC lC
  have S := b1.store (.bool false) (.string ⟨#[]⟩) (.string ⟨#[]⟩)
  have hchS := hch.store3 (.inr (Nat.le_refl _)) (.bool false) (.string ⟨#[]⟩) (.string ⟨#[]⟩)
  have b1c0 := b1.c0
  have b1c1 := b1.c1
  have b1c2 := b1.c2
  have b1f0 := b1.f0
  have b1f1 := b1.f1
  have b1f2 := b1.f2
  have b1l := b1.lt
  go_wp2_with fail
  exact bodyPost_ret (v := .tuple #[.agg #[.bool false, .string ⟨#[]⟩, .string ⟨#[]⟩], .bool false]) (by simp [results, Tryz.results58, go_sem, S.c0, S.c1, S.c2]) rfl ⟨rfl, hchS⟩

set_option maxRecDepth 20000 in
set_option maxHeartbeats 1000000 in
theorem rMake_any (neg : Bool) (N D : ByteArray) (w : World) (hN : N.size ≤ 1099511627776) (hD : D.size ≤ 1099511627776) (h : val D ≠ 0) :
    Calls Tryz.prog 58 #[.bool neg, .string N, .string D] w fun e w' => ∃ x, e = .returned (.tuple #[.agg #[.bool x.neg, .string x.num, .string x.den], .bool true]) ∧ Enc x (sq neg (val N) (val D)) ∧ Chg [] w w' := by
  have hch : Chg [] w (w.alloc (.cells #[.bool false, .string ⟨#[]⟩, .string ⟨#[]⟩] 23)) := (Chg.refl _ _).alloc _
  have b1 := Blk3.alloc w (.bool false) (.string ⟨#[]⟩) (.string ⟨#[]⟩) 23
  have HZ := Lib.hid h
  clear h
  go_enter Tryz.func58, Tryz.ntmps58
  go_wp2_with fail
  refine (limbs_any D _ hD).mono ?_
  rintro e w1 ⟨gb, cb, C, rfl, hC, hgb, dC, nC, vC, lC, c1⟩
  have VC := Lib.hid vC
  have hC0 : C ≠ [] := by rintro rfl; exact HZ.out vC.symm
  have hnb : ((C.length : Int) == 0) = false := by
    have := List.length_pos_iff.2 hC0
    rw [beq_eq_false_iff_ne]; omega
  replace b1 := b1.keep c1 (by simp)
  replace hch := hch.then c1
  clear c1 vC hgb hC0
  go_wp2_with fail
  refine (limbs_any N _ hN).mono ?_
  rintro e w2 ⟨ga, ca, A, rfl, hA, hga, dA, nA, vA, lA, c1⟩
  have VA := Lib.hid vA
  replace hC := hC.keep c1 (by simp)
  replace b1 := b1.keep c1 (by simp)
  replace hch := hch.then c1
  clear c1 vA hga hnb
  go_wp2_with fail
  by_cases hz : lv 4294967296 A = 0
  · obtain rfl : A = [] := (lv_zero_iff (B := 4294967296) (by omega) A nA).1 hz
    refine (reduced_zero neg ga ca _ _).mono ?_
    rintro e w3 ⟨rfl, c1⟩
    replace b1 := b1.keep c1 (by simp)
    replace hch := hch.then c1
    clear c1 hA hC
    have S := b1.store (.bool false) (.string ⟨#[]⟩) (.string ⟨#[]⟩)
    have hchS := hch.store3 (.inr (Nat.le_refl _)) (.bool false) (.string ⟨#[]⟩) (.string ⟨#[]⟩)
    have he : Enc q0 (sq neg (val N) (val D)) := by rw [← VA.out, hz, sq_zero]; exact Enc_zero
    have HE := Lib.hid he
    clear he
    have b1c0 := b1.c0
    have b1c1 := b1.c1
    have b1c2 := b1.c2
    have b1f0 := b1.f0
    have b1f1 := b1.f1
    have b1f2 := b1.f2
    have b1l := b1.lt
    go_wp2_with fail
    exact bodyPost_ret (v := .tuple #[.agg #[.bool false, .string ⟨#[]⟩, .string ⟨#[]⟩], .bool true]) (by simp [results, Tryz.results58, go_sem, S.c0, S.c1, S.c2]) rfl ⟨q0, rfl, HE.out, hchS⟩
  · refine (reduced_any neg ga ca gb cb A C _ hA hC dA dC nA nC (by omega) (by omega) hz (by rw [VC.out]; exact HZ.out)).mono ?_
    rintro e w3 ⟨x, rfl, hx, c1⟩
    rw [VA.out, VC.out] at hx
    have HX := Lib.hid hx
    replace b1 := b1.keep c1 (by simp)
    replace hch := hch.then c1
    clear c1 hA hC hx
    have S := b1.store (.bool x.neg) (.string x.num) (.string x.den)
    have hchS := hch.store3 (.inr (Nat.le_refl _)) (.bool x.neg) (.string x.num) (.string x.den)
    have b1c0 := b1.c0
    have b1c1 := b1.c1
    have b1c2 := b1.c2
    have b1f0 := b1.f0
    have b1f1 := b1.f1
    have b1f2 := b1.f2
    have b1l := b1.lt
    go_wp2_with fail
    exact bodyPost_ret (v := .tuple #[.agg #[.bool x.neg, .string x.num, .string x.den], .bool true]) (by simp [results, Tryz.results58, go_sem, S.c0, S.c1, S.c2]) rfl ⟨x, rfl, HX.out, hchS⟩

theorem ok_q0 : okB q0 = true := Enc_zero.ok
set_option maxRecDepth 20000 in
set_option maxHeartbeats 1000000 in
theorem rsize_any (n : Int) (w : World) (h1 : -9223372036854775808 ≤ n) (h2 : n ≤ 9223372036854775807) :
    Calls Tryz.prog 59 #[.int .i64 n] w fun e w' => e = .returned (.int .u64 (n.natAbs : Nat)) ∧ w = w' := by
  by_cases h0 : n < 0
  · obtain ⟨j, hj⟩ : ∃ j : Nat, n = -((j : Int) + 1) := ⟨(n + 1).natAbs, by omega⟩
    have e1 : Hid (n.natAbs = j + 1) := by show _ = _; omega
    have hj1 : j ≤ 9223372036854775807 := by omega
    have e2 : n + 1 = -(j : Int) := by omega
    rw [e1.out]
    clear hj
    go_enter Tryz.func59, Tryz.ntmps59
    go_wp2_with fail
    go_ret
    exact ⟨ret_eq (by congr 1), rfl⟩
  · obtain ⟨m, rfl⟩ : ∃ m : Nat, n = (m : Int) := ⟨n.toNat, by omega⟩
    rw [Int.natAbs_natCast]
    go_enter Tryz.func59, Tryz.ntmps59
    go_wp2_with fail
    go_ret
    exact ⟨rfl, rfl⟩

set_option maxRecDepth 20000 in
set_option maxHeartbeats 1000000 in
theorem rInt_any (n : Int) (w : World) (h1 : -9223372036854775808 ≤ n) (h2 : n ≤ 9223372036854775807) :
    Calls Tryz.prog 20 #[.int .i64 n] w fun e w' => ∃ x, e = .returned (.agg #[.bool x.neg, .string x.num, .string x.den]) ∧ Enc x (n : Rat) ∧ Chg [] w w' := by
  have b1 := Blk3.alloc w (.bool false) (.string ⟨#[]⟩) (.string ⟨#[]⟩) 23
  have hch : Chg [] w (w.alloc (.cells #[.bool false, .string ⟨#[]⟩, .string ⟨#[]⟩] 23)) := (Chg.refl _ _).alloc _
  obtain ⟨neg, HN⟩ := name_it (decide (n < 0))
  have hneg := HN.out
  go_enter Tryz.func20, Tryz.ntmps20
  go_wp2_with fail
  refine (rsize_any n _ h1 h2).mono ?_
  rintro e _ ⟨rfl, rfl⟩
  go_wp2_with fail
  refine (rfromUint_any n.natAbs _ (by omega)).mono ?_
  rintro e w1 ⟨s, rfl, hs, c1⟩
  have HS := Lib.hid hs
  replace hch := hch.then c1
  replace b1 := b1.keep c1 (by simp)
  clear hs c1
  have S := b1.store (.bool neg) (.string s) (.string ⟨#[]⟩)
  have hchS := hch.store3 (.inr (Nat.le_refl _)) (.bool neg) (.string s) (.string ⟨#[]⟩)
  have b1c0 := b1.c0
  have b1c1 := b1.c1
  have b1c2 := b1.c2
  have b1f0 := b1.f0
  have b1f1 := b1.f1
  have b1f2 := b1.f2
  have b1l := b1.lt
  go_wp2_with fail
  have he : Enc ⟨neg, s, ⟨#[]⟩⟩ (n : Rat) := ⟨by rw [← HN.out]; exact decide_eq_decide.2 (by simp), by simpa using HS.out, by simpa using Is_zero.2 rfl⟩
  exact bodyPost_ret (v := .agg #[.bool neg, .string s, .string ⟨#[]⟩]) (by simp [results, Tryz.results20, go_sem, S.c0, S.c1, S.c2]) rfl ⟨⟨neg, s, ⟨#[]⟩⟩, rfl, he, hchS⟩

set_option maxRecDepth 20000 in
set_option maxHeartbeats 1000000 in
theorem rFraction_any (a b : Int) (w : World) (h1 : -9223372036854775808 ≤ a) (h2 : a ≤ 9223372036854775807) (h3 : -9223372036854775808 ≤ b) (h4 : b ≤ 9223372036854775807) (hb : b ≠ 0) :
    Calls Tryz.prog 17 #[.int .i64 a, .int .i64 b] w fun e w' => ∃ x, e = .returned (.tuple #[.agg #[.bool x.neg, .string x.num, .string x.den], .bool true]) ∧ Enc x (sq (fsg a b) a.natAbs b.natAbs) ∧ Chg [] w w' := by
  have hch : Chg [] w (w.alloc (.cells #[.bool false, .string ⟨#[]⟩, .string ⟨#[]⟩] 23)) := (Chg.refl _ _).alloc _
  have B0 := Lib.hid (Blk3.alloc w (.bool false) (.string ⟨#[]⟩) (.string ⟨#[]⟩) 23)
  have HB := Lib.hid hb
  clear hb
  obtain ⟨na, HNA⟩ := name_it (decide (a < 0))
  obtain ⟨nb, HNB⟩ := name_it (decide (b < 0))
  have hf : Hid (fsg a b = (na != nb)) := by show _ = _; unfold fsg; rw [HNA.out, HNB.out]
  rw [hf.out]
  have ha := HNA.out
  have hbb := HNB.out
  obtain ⟨sg, HSG⟩ := name_it (na != nb)
  have hsg := HSG.out
  rw [hsg]
  go_enter Tryz.func17, Tryz.ntmps17
  go_wp2_with fail
  refine (rsize_any a _ h1 h2).mono ?_
  rintro e _ ⟨rfl, rfl⟩
  go_wp2_with fail
  refine (rfromUint_any a.natAbs _ (by omega)).mono ?_
  rintro e w1 ⟨s, rfl, hs, c1⟩
  have HS := Lib.hid hs
  have hch1 := hch.then c1
  have B1 := Lib.hid (B0.out.keep c1 (by simp))
  clear hs c1 hch B0
  go_wp2_with fail
  refine (rsize_any b _ h3 h4).mono ?_
  rintro e _ ⟨rfl, rfl⟩
  go_wp2_with fail
  refine (rfromUint_any b.natAbs _ (by omega)).mono ?_
  rintro e w2 ⟨t, rfl, ht, c2⟩
  have HT := Lib.hid ht
  have hch2 := hch1.then c2
  have B2 := Lib.hid (B1.out.keep c2 (by simp))
  clear ht c2 hch1 B1
  go_wp2_with fail
  have zs : s.size ≤ 1099511627776 := Nat.le_trans (Is_size HS.out 8 (by omega)) (by omega)
  have zt : t.size ≤ 1099511627776 := Nat.le_trans (Is_size HT.out 8 (by omega)) (by omega)
  refine (rMake_any _ s t _ zs zt (by rw [Is_val HT.out]; have := HB.out; omega)).mono ?_
  rintro e w3 ⟨x, rfl, hx, c3⟩
  rw [show (!(na == nb)) = sg from HSG.out] at hx
  rw [Is_val HS.out, Is_val HT.out] at hx
  have HX := Lib.hid hx
  have hch3 := hch2.then c3
  have B3 := B2.out.keep c3 (by simp)
  have B3' := Lib.hid B3
  obtain ⟨k0, k1, k2, f0, f1, f2, l1⟩ := B3
  clear hx c3 hch2 B2
  go_wp2_with fail
  have S := B3'.out.store (.bool x.neg) (.string x.num) (.string x.den)
  exact bodyPost_ret (v := .tuple #[.agg #[.bool x.neg, .string x.num, .string x.den], .bool true]) (by simp [results, Tryz.results17, go_sem, S.c0, S.c1, S.c2]) rfl ⟨x, rfl, HX.out, hch3.store3 (.inr (by omega)) _ _ _⟩

set_option maxRecDepth 20000 in
set_option maxHeartbeats 1000000 in
theorem rFraction_zero (a : Int) (w : World) (h1 : -9223372036854775808 ≤ a) (h2 : a ≤ 9223372036854775807) :
    Calls Tryz.prog 17 #[.int .i64 a, .int .i64 0] w fun e w' => e = .returned (.tuple #[.agg #[.bool false, .string ⟨#[]⟩, .string ⟨#[]⟩], .bool false]) ∧ Chg [] w w' := by
  have hch : Chg [] w (w.alloc (.cells #[.bool false, .string ⟨#[]⟩, .string ⟨#[]⟩] 23)) := (Chg.refl _ _).alloc _
  have B0 := Lib.hid (Blk3.alloc w (.bool false) (.string ⟨#[]⟩) (.string ⟨#[]⟩) 23)
  obtain ⟨na, HNA⟩ := name_it (decide (a < 0))
  have ha := HNA.out
  go_enter Tryz.func17, Tryz.ntmps17
  go_wp2_with fail
  refine (rsize_any a _ h1 h2).mono ?_
  rintro e _ ⟨rfl, rfl⟩
  go_wp2_with fail
  refine (rfromUint_any a.natAbs _ (by omega)).mono ?_
  rintro e w1 ⟨s, rfl, hs, c1⟩
  have HS := Lib.hid hs
  have hch1 := hch.then c1
  have B1 := Lib.hid (B0.out.keep c1 (by simp))
  clear hs c1 hch B0
  go_wp2_with fail
  refine (rsize_any 0 _ (by omega) (by omega)).mono ?_
  rintro e _ ⟨rfl, rfl⟩
  go_wp2_with fail
  refine (rfromUint_any (0 : Int).natAbs _ (by omega)).mono ?_
  rintro e w2 ⟨t, rfl, ht, c2⟩
  have HT := Lib.hid ht
  have hch2 := hch1.then c2
  have B2 := Lib.hid (B1.out.keep c2 (by simp))
  clear ht c2 hch1 B1
  go_wp2_with fail
  have zs : s.size ≤ 1099511627776 := Nat.le_trans (Is_size HS.out 8 (by omega)) (by omega)
  have zt : t.size ≤ 1099511627776 := Nat.le_trans (Is_size HT.out 8 (by simp)) (by omega)
  refine (rMake_zero _ s t _ zt (by rw [Is_val HT.out]; rfl)).mono ?_
  rintro e w3 ⟨rfl, c3⟩
  have hch3 := hch2.then c3
  have B3 := B2.out.keep c3 (by simp)
  have B3' := Lib.hid B3
  obtain ⟨k0, k1, k2, f0, f1, f2, l1⟩ := B3
  clear c3 hch2 B2
  go_wp2_with fail
  have S := B3'.out.store (.bool false) (.string ⟨#[]⟩) (.string ⟨#[]⟩)
  exact bodyPost_ret (v := .tuple #[.agg #[.bool false, .string ⟨#[]⟩, .string ⟨#[]⟩], .bool false]) (by simp [results, Tryz.results17, go_sem, S.c0, S.c1, S.c2]) rfl ⟨rfl, hch3.store3 (.inr (by omega)) _ _ _⟩

set_option maxRecDepth 20000 in
set_option maxHeartbeats 2000000 in
theorem lfraction_any (a b : Int) (w : World) (h1 : -9223372036854775808 ≤ a) (h2 : a ≤ 9223372036854775807) (h3 : -9223372036854775808 ≤ b) (h4 : b ≤ 9223372036854775807) :
    Calls Tryz.prog 3 #[.int .i64 a, .int .i64 b] w fun e w' => e = .returned (.bool true) ∧ Chg [] w w' := by
  have hch : Chg [] w w := Chg.refl _ _
  by_cases hz : b = 0
  · subst hz
    clear h3 h4
    go_enter Tryz.func3, Tryz.ntmps3
    go_wp2_with fail
    refine (Fraction_zero a _ h1 h2).mono ?_
    rintro e w1 ⟨rfl, c1⟩
    replace hch := hch.then c1
    clear c1
    have b1 := Blk3.alloc w1 (.bool false) (.string ⟨#[]⟩) (.string ⟨#[]⟩) 23
    replace hch := hch.then ((Chg.refl [] w1).alloc (.cells #[.bool false, .string ⟨#[]⟩, .string ⟨#[]⟩] 23))
    obtain ⟨g1, G1⟩ := name_it w1.heap.size
    rw [G1.out] at b1
    have hg1 := G1.out
    go_wp2_with fail
    refine (rFraction_zero a _ h1 h2).mono ?_
    rintro e w1 ⟨rfl, c1⟩
    replace hch := hch.then c1
    replace b1 := b1.keep c1 (by simp)
    clear c1
    have b2 := Blk3.alloc w1 (.bool false) (.string ⟨#[]⟩) (.string ⟨#[]⟩) 23
    replace hch := hch.then ((Chg.refl [] w1).alloc (.cells #[.bool false, .string ⟨#[]⟩, .string ⟨#[]⟩] 23))
    replace b1 := b1.keep ((Chg.refl [] w1).alloc (.cells #[.bool false, .string ⟨#[]⟩, .string ⟨#[]⟩] 23)) (by simp)
    obtain ⟨g2, G2⟩ := name_it w1.heap.size
    rw [G2.out] at b2
    have hg2 := G2.out
    go_upto_region 3 with fail
    obtain ⟨w0, HW0⟩ := name_it (w1.alloc (.cells #[.bool false, .string ⟨#[]⟩, .string ⟨#[]⟩] 23))
    rw [HW0.out] at b1 b2 hch ⊢
    go_wp2_with fail
    refine (awake2_any _).mono ?_
    rintro e w3 ⟨rfl, c1⟩
    replace b1 := b1.keep c1 (by simp)
    replace b2 := b2.keep c1 (by simp)
    replace hch := hch.then c1
    clear c1
    have b1c0 := b1.c0
    have b1c1 := b1.c1
    have b1c2 := b1.c2
    have b2c0 := b2.c0
    have b2c1 := b2.c1
    have b2c2 := b2.c2
    go_wp2_with fail
    refine (Int_any a _ h1 h2).mono ?_
    rintro e w4 ⟨u, rfl, hu, c1⟩
    have HU := Lib.hid hu
    replace hch := hch.then c1
    clear c1 hu
    go_wp2_with fail
    refine (rInt_any a _ h1 h2).mono ?_
    rintro e w5 ⟨v, rfl, hv, c1⟩
    obtain rfl : u = v := HU.out.unique hv
    replace hch := hch.then c1
    clear c1 hv
    go_wp2_with fail
    go_ret
    exact ⟨rfl, hch⟩
  · have HZ := Lib.hid hz
    clear hz
    go_enter Tryz.func3, Tryz.ntmps3
    go_wp2_with fail
    refine (Fraction_any a b _ h1 h2 h3 h4 HZ.out).mono ?_
    rintro e w1 ⟨x, rfl, hx, c1⟩
    have HX := Lib.hid hx
    clear hx
    replace hch := hch.then c1
    clear c1
    have b1 := Blk3.alloc w1 (.bool x.neg) (.string x.num) (.string x.den) 23
    replace hch := hch.then ((Chg.refl [] w1).alloc (.cells #[.bool x.neg, .string x.num, .string x.den] 23))
    obtain ⟨g1, G1⟩ := name_it w1.heap.size
    rw [G1.out] at b1
    have hg1 := G1.out
    go_wp2_with fail
    refine (rFraction_any a b _ h1 h2 h3 h4 HZ.out).mono ?_
    rintro e w1 ⟨y, rfl, hy, c1⟩
    obtain rfl : x = y := HX.out.unique hy
    clear hy
    replace hch := hch.then c1
    replace b1 := b1.keep c1 (by simp)
    clear c1
    have b2 := Blk3.alloc w1 (.bool x.neg) (.string x.num) (.string x.den) 23
    replace hch := hch.then ((Chg.refl [] w1).alloc (.cells #[.bool x.neg, .string x.num, .string x.den] 23))
    replace b1 := b1.keep ((Chg.refl [] w1).alloc (.cells #[.bool x.neg, .string x.num, .string x.den] 23)) (by simp)
    obtain ⟨g2, G2⟩ := name_it w1.heap.size
    rw [G2.out] at b2
    have hg2 := G2.out
    go_upto_region 3 with fail
    obtain ⟨w0, HW0⟩ := name_it (w1.alloc (.cells #[.bool x.neg, .string x.num, .string x.den] 23))
    rw [HW0.out] at b1 b2 hch ⊢
    go_wp2_with fail
    refine (awake2_any _).mono ?_
    rintro e w3 ⟨rfl, c1⟩
    replace b1 := b1.keep c1 (by simp)
    replace b2 := b2.keep c1 (by simp)
    replace hch := hch.then c1
    clear c1
    have b1c0 := b1.c0
    have b1c1 := b1.c1
    have b1c2 := b1.c2
    have b2c0 := b2.c0
    have b2c1 := b2.c1
    have b2c2 := b2.c2
    go_wp2_with fail
    refine (Int_any a _ h1 h2).mono ?_
    rintro e w4 ⟨u, rfl, hu, c1⟩
    have HU := Lib.hid hu
    replace hch := hch.then c1
    clear c1 hu
    go_wp2_with fail
    refine (rInt_any a _ h1 h2).mono ?_
    rintro e w5 ⟨v, rfl, hv, c1⟩
    obtain rfl : u = v := HU.out.unique hv
    replace hch := hch.then c1
    clear c1 hv
    go_wp2_with fail
    go_ret
    exact ⟨rfl, hch⟩
end Go.Proofs.YtjmonodjnljhdaaGreatDoor
