/-
  Walks of package rational: the reference makes a number; RationalMake.
-/
import Derived.Test.YtjmonodjnljhdaaDoorQ14
namespace Go.Proofs.YtjmonodjnljhdaaDoor
open Go.RowKit Nd

set_option maxRecDepth 20000 in
set_option maxHeartbeats 1000000 in
theorem rMake_zero (neg : Bool) (N D : ByteArray) (w : World) (hD : D.size ≤ 1099511627776) (h : val D = 0) :
    Calls Tryd.prog 20 #[.bool neg, .string N, .string D] w fun e w' => e = .returned (.tuple #[.agg #[.bool false, .string ⟨#[]⟩, .string ⟨#[]⟩], .bool false]) ∧ Chg [] w w' := by
  have hch : Chg [] w (w.alloc (.cells #[.bool false, .string ⟨#[]⟩, .string ⟨#[]⟩] 29)) := (Chg.refl _ _).alloc _
  have b1 := Blk3.alloc w (.bool false) (.string ⟨#[]⟩) (.string ⟨#[]⟩) 29
  have HZ := Lib.hid h
  clear h
  go_enter Tryd.func20, Tryd.ntmps20
  go_wp2_with fail
  refine (limbs_any D _ hD).mono ?_
  rintro e w1 ⟨gb, cb, C, rfl, hC, hgb, dC, nC, vC, lC, c1⟩
  obtain rfl : C = [] := (lv_zero_iff (B := 4294967296) (by omega) C nC).1 (by rw [vC]; exact HZ.out)
  replace b1 := b1.keep c1 (by simp)
  replace hch := hch.then c1
  clear c1 hC hgb dC nC vC lC
  have S := b1.store (.bool false) (.string ⟨#[]⟩) (.string ⟨#[]⟩)
  have hchS := hch.store3 (.inr (Nat.le_refl _)) (.bool false) (.string ⟨#[]⟩) (.string ⟨#[]⟩)
  have b1c0 := b1.c0
  have b1c1 := b1.c1
  have b1c2 := b1.c2
  have b1f0 := b1.f0
  have b1f1 := b1.f1
  have b1f2 := b1.f2
  have b1l := b1.lt
  go_wp2_with fail
  exact bodyPost_ret (v := .tuple #[.agg #[.bool false, .string ⟨#[]⟩, .string ⟨#[]⟩], .bool false]) (by simp [results, Tryd.results20, go_sem, S.c0, S.c1, S.c2]) rfl ⟨rfl, hchS⟩

set_option maxRecDepth 20000 in
set_option maxHeartbeats 1000000 in
theorem rMake_any (neg : Bool) (N D : ByteArray) (w : World) (hN : N.size ≤ 1099511627776) (hD : D.size ≤ 1099511627776) (h : val D ≠ 0) :
    Calls Tryd.prog 20 #[.bool neg, .string N, .string D] w fun e w' => ∃ x, e = .returned (.tuple #[.agg #[.bool x.neg, .string x.num, .string x.den], .bool true]) ∧ Enc x (sq neg (val N) (val D)) ∧ Chg [] w w' := by
  have hch : Chg [] w (w.alloc (.cells #[.bool false, .string ⟨#[]⟩, .string ⟨#[]⟩] 29)) := (Chg.refl _ _).alloc _
  have b1 := Blk3.alloc w (.bool false) (.string ⟨#[]⟩) (.string ⟨#[]⟩) 29
  have HZ := Lib.hid h
  clear h
  go_enter Tryd.func20, Tryd.ntmps20
  go_wp2_with fail
  refine (limbs_any D _ hD).mono ?_
  rintro e w1 ⟨gb, cb, C, rfl, hC, hgb, dC, nC, vC, lC, c1⟩
  have VC := Lib.hid vC
  have hC0 : C ≠ [] := by rintro rfl; exact HZ.out vC.symm
  have hnb : ((C.length : Int) == 0) = false := by
    have := List.length_pos_iff.2 hC0
    rw [beq_eq_false_iff_ne]; omega
  replace b1 := b1.keep c1 (by simp)
  replace hch := hch.then c1
  clear c1 vC hgb hC0
  go_wp2_with fail
  refine (limbs_any N _ hN).mono ?_
  rintro e w2 ⟨ga, ca, A, rfl, hA, hga, dA, nA, vA, lA, c1⟩
  have VA := Lib.hid vA
  replace hC := hC.keep c1 (by simp)
  replace b1 := b1.keep c1 (by simp)
  replace hch := hch.then c1
  clear c1 vA hga hnb
  go_wp2_with fail
  by_cases hz : lv 4294967296 A = 0
  · obtain rfl : A = [] := (lv_zero_iff (B := 4294967296) (by omega) A nA).1 hz
    refine (reduced_zero neg ga ca _ _).mono ?_
    rintro e w3 ⟨rfl, c1⟩
    replace b1 := b1.keep c1 (by simp)
    replace hch := hch.then c1
    clear c1 hA hC
    have S := b1.store (.bool false) (.string ⟨#[]⟩) (.string ⟨#[]⟩)
    have hchS := hch.store3 (.inr (Nat.le_refl _)) (.bool false) (.string ⟨#[]⟩) (.string ⟨#[]⟩)
    have he : Enc q0 (sq neg (val N) (val D)) := by rw [← VA.out, hz, sq_zero]; exact Enc_zero
    have HE := Lib.hid he
    clear he
    have b1c0 := b1.c0
    have b1c1 := b1.c1
    have b1c2 := b1.c2
    have b1f0 := b1.f0
    have b1f1 := b1.f1
    have b1f2 := b1.f2
    have b1l := b1.lt
    go_wp2_with fail
    exact bodyPost_ret (v := .tuple #[.agg #[.bool false, .string ⟨#[]⟩, .string ⟨#[]⟩], .bool true]) (by simp [results, Tryd.results20, go_sem, S.c0, S.c1, S.c2]) rfl ⟨q0, rfl, HE.out, hchS⟩
  · refine (reduced_any neg ga ca gb cb A C _ hA hC dA dC nA nC (by omega) (by omega) hz (by rw [VC.out]; exact HZ.out)).mono ?_
    rintro e w3 ⟨x, rfl, hx, c1⟩
    rw [VA.out, VC.out] at hx
    have HX := Lib.hid hx
    replace b1 := b1.keep c1 (by simp)
    replace hch := hch.then c1
    clear c1 hA hC hx
    have S := b1.store (.bool x.neg) (.string x.num) (.string x.den)
    have hchS := hch.store3 (.inr (Nat.le_refl _)) (.bool x.neg) (.string x.num) (.string x.den)
    have b1c0 := b1.c0
    have b1c1 := b1.c1
    have b1c2 := b1.c2
    have b1f0 := b1.f0
    have b1f1 := b1.f1
    have b1f2 := b1.f2
    have b1l := b1.lt
    go_wp2_with fail
    exact bodyPost_ret (v := .tuple #[.agg #[.bool x.neg, .string x.num, .string x.den], .bool true]) (by simp [results, Tryd.results20, go_sem, S.c0, S.c1, S.c2]) rfl ⟨x, rfl, HX.out, hchS⟩

theorem ok_q0 : okB q0 = true := Enc_zero.ok
set_option maxRecDepth 20000 in
set_option maxHeartbeats 2000000 in
theorem lmake_any (neg : Bool) (N D : ByteArray) (w : World) : Calls Tryd.prog 6 #[.bool neg, .string N, .string D] w fun e w' => e = .returned (.bool true) ∧ Chg [] w w' := by
  have hch : Chg [] w w := Chg.refl _ _
  by_cases h1 : 40 < N.size
  · have d1 : decide ((40 : Int) < (N.size : Int)) = true := by simp; omega
    go_enter Tryd.func6, Tryd.ntmps6
    go_wp2_with fail
    refine (awake2_any _).mono ?_
    rintro e w1 ⟨rfl, c1⟩
    go_wp2_with fail
    go_ret
    exact ⟨rfl, c1⟩
  have d1 : decide ((40 : Int) < (N.size : Int)) = false := by simp; omega
  by_cases h2 : 40 < D.size
  · have d2 : decide ((40 : Int) < (D.size : Int)) = true := by simp; omega
    go_enter Tryd.func6, Tryd.ntmps6
    go_wp2_with fail
    refine (awake2_any _).mono ?_
    rintro e w1 ⟨rfl, c1⟩
    go_wp2_with fail
    go_ret
    exact ⟨rfl, c1⟩
  have d2 : decide ((40 : Int) < (D.size : Int)) = false := by simp; omega
  have s1 : N.size ≤ 1099511627776 := by omega
  have s2 : D.size ≤ 1099511627776 := by omega
  have S1 : Hid (N.size ≤ 40 ∧ D.size ≤ 40) := by show _ ∧ _; omega
  clear h1 h2
  by_cases hz : val D = 0
  · have HZ := Lib.hid hz
    clear hz
    go_enter Tryd.func6, Tryd.ntmps6
    go_wp2_with fail
    refine (Make_zero neg N D _ s1 s2 HZ.out).mono ?_
    rintro e w1 ⟨rfl, c1⟩
    replace hch := hch.then c1
    clear c1
    have b1 := Blk3.alloc w1 (.bool false) (.string ⟨#[]⟩) (.string ⟨#[]⟩) 29
    replace hch := hch.then ((Chg.refl [] w1).alloc (.cells #[.bool false, .string ⟨#[]⟩, .string ⟨#[]⟩] 29))
    obtain ⟨g1, G1⟩ := name_it w1.heap.size
    rw [G1.out] at b1
    have hg1 := G1.out
    go_wp2_with fail
    refine (rMake_zero neg N D _ s2 HZ.out).mono ?_
    rintro e w1 ⟨rfl, c1⟩
    replace hch := hch.then c1
    replace b1 := b1.keep c1 (by simp)
    clear c1
    have b2 := Blk3.alloc w1 (.bool false) (.string ⟨#[]⟩) (.string ⟨#[]⟩) 29
    replace hch := hch.then ((Chg.refl [] w1).alloc (.cells #[.bool false, .string ⟨#[]⟩, .string ⟨#[]⟩] 29))
    replace b1 := b1.keep ((Chg.refl [] w1).alloc (.cells #[.bool false, .string ⟨#[]⟩, .string ⟨#[]⟩] 29)) (by simp)
    obtain ⟨g2, G2⟩ := name_it w1.heap.size
    rw [G2.out] at b2
    have hg2 := G2.out
    go_upto_region 5 with fail
    obtain ⟨w0, HW0⟩ := name_it (w1.alloc (.cells #[.bool false, .string ⟨#[]⟩, .string ⟨#[]⟩] 29))
    rw [HW0.out] at b1 b2 hch ⊢
    go_wp2_with fail
    refine (awake2_any _).mono ?_
    rintro e w3 ⟨rfl, c1⟩
    replace b1 := b1.keep c1 (by simp)
    replace b2 := b2.keep c1 (by simp)
    replace hch := hch.then c1
    clear c1
    have b1c0 := b1.c0
    have b1c1 := b1.c1
    have b1c2 := b1.c2
    have b2c0 := b2.c0
    have b2c1 := b2.c1
    have b2c2 := b2.c2
    go_wp2_with fail
    refine (Valid_any q0 _ (by decide) (by decide)).mono ?_
    rintro e w4 ⟨rfl, c1⟩
    rw [ok_q0]
    replace hch := hch.then c1
    clear c1
    go_wp2_with fail
    go_ret
    exact ⟨rfl, hch⟩
  · have HZ := Lib.hid hz
    clear hz
    go_enter Tryd.func6, Tryd.ntmps6
    go_wp2_with fail
    refine (Make_any neg N D _ s1 s2 HZ.out).mono ?_
    rintro e w1 ⟨x, rfl, hx, c1⟩
    have HX := Lib.hid hx
    clear hx
    have SX : Hid (x.num.size ≤ 40 ∧ x.den.size ≤ 40) := by
      show _ ∧ _
      obtain ⟨b1, b2⟩ := Bd_sq (neg := neg) HZ.out (lt_pow_le (val_lt N) S1.out.1) (lt_pow_le (val_lt D) S1.out.2)
      exact HX.out.fits ⟨b1, b2⟩
    replace hch := hch.then c1
    clear c1
    have b1 := Blk3.alloc w1 (.bool x.neg) (.string x.num) (.string x.den) 29
    replace hch := hch.then ((Chg.refl [] w1).alloc (.cells #[.bool x.neg, .string x.num, .string x.den] 29))
    obtain ⟨g1, G1⟩ := name_it w1.heap.size
    rw [G1.out] at b1
    have hg1 := G1.out
    go_wp2_with fail
    refine (rMake_any neg N D _ s1 s2 HZ.out).mono ?_
    rintro e w1 ⟨y, rfl, hy, c1⟩
    obtain rfl : x = y := HX.out.unique hy
    clear hy
    replace hch := hch.then c1
    replace b1 := b1.keep c1 (by simp)
    clear c1
    have b2 := Blk3.alloc w1 (.bool x.neg) (.string x.num) (.string x.den) 29
    replace hch := hch.then ((Chg.refl [] w1).alloc (.cells #[.bool x.neg, .string x.num, .string x.den] 29))
    replace b1 := b1.keep ((Chg.refl [] w1).alloc (.cells #[.bool x.neg, .string x.num, .string x.den] 29)) (by simp)
    obtain ⟨g2, G2⟩ := name_it w1.heap.size
    rw [G2.out] at b2
    have hg2 := G2.out
    go_upto_region 5 with fail
    obtain ⟨w0, HW0⟩ := name_it (w1.alloc (.cells #[.bool x.neg, .string x.num, .string x.den] 29))
    rw [HW0.out] at b1 b2 hch ⊢
    go_wp2_with fail
    refine (awake2_any _).mono ?_
    rintro e w3 ⟨rfl, c1⟩
    replace b1 := b1.keep c1 (by simp)
    replace b2 := b2.keep c1 (by simp)
    replace hch := hch.then c1
    clear c1
    have b1c0 := b1.c0
    have b1c1 := b1.c1
    have b1c2 := b1.c2
    have b2c0 := b2.c0
    have b2c1 := b2.c1
    have b2c2 := b2.c2
    go_wp2_with fail
    refine (Valid_any x _ (by have := SX.out.1; omega) (by have := SX.out.2; omega)).mono ?_
    rintro e w4 ⟨rfl, c1⟩
    rw [HX.out.ok]
    replace hch := hch.then c1
    clear c1
    go_wp2_with fail
    go_ret
    exact ⟨rfl, hch⟩
end Go.Proofs.YtjmonodjnljhdaaDoor
