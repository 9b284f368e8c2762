/-
  Law: Edge.
-/
import Derived.Test.YtlhmimbooampdaaDoorLA5
namespace Go.Proofs.YtlhmimbooampdaaDoor
open Go.RowKit Nd
set_option maxRecDepth 20000 in
set_option maxHeartbeats 4000000 in
theorem ledge_any (c : Int) (w : World) (hc : (Lit.int .u8 c).wf = true) :
    Calls Tryd.prog 3 #[.int .u8 c] w fun e w' => e = .returned (.bool true) ∧ Chg [] w w' := by
  have hb : 0 ≤ c ∧ c ≤ 255 := by simpa [Lit.wf, IntKind.min, IntKind.max, IntKind.signed, IntKind.bits] using hc
  clear hc
  obtain ⟨m, rfl⟩ := Int.eq_ofNat_of_zero_le hb.1
  obtain ⟨j, HJ⟩ := name_it (m % 4)
  have hj : j < 4 := by rw [← HJ.out]; omega
  have hch : Chg [] w w := Chg.refl _ _
  go_enter Tryd.func3, Tryd.ntmps3
  go_wp2_with fail
  refine (IntN 1 _ (by omega) (by omega)).mono ?_
  rintro e w1 ⟨z1, rfl, h1, c1⟩
  replace hch := hch.then c1
  clear c1
  have b1 := Blk3.alloc w1 (.bool z1.neg) (.string z1.num) (.string z1.den) 23
  replace hch := hch.then ((Chg.refl [] _).alloc (.cells #[.bool z1.neg, .string z1.num, .string z1.den] 23))
  obtain ⟨gb1, Gb1⟩ := name_it w1.heap.size
  rw [Gb1.out] at b1
  have hgb1 := Gb1.out
  obtain ⟨wb1, HWb1⟩ := name_it (w1.alloc (.cells #[.bool z1.neg, .string z1.num, .string z1.den] 23))
  rw [HWb1.out] at b1 hch
  go_wp2_with fail
  refine (IntN 9223372036854775807 _ (by omega) (by omega)).mono ?_
  rintro e w1 ⟨z2, rfl, h2, c1⟩
  rw [HWb1.out] at c1
  replace b1 := b1.keep c1 (by simp)
  replace hch := hch.then c1
  clear c1
  have b2 := Blk3.alloc w1 (.bool z2.neg) (.string z2.num) (.string z2.den) 23
  replace b1 := b1.keep ((Chg.refl [] _).alloc (.cells #[.bool z2.neg, .string z2.num, .string z2.den] 23)) (by simp)
  replace hch := hch.then ((Chg.refl [] _).alloc (.cells #[.bool z2.neg, .string z2.num, .string z2.den] 23))
  obtain ⟨gb2, Gb2⟩ := name_it w1.heap.size
  rw [Gb2.out] at b2
  have hgb2 := Gb2.out
  obtain ⟨wb2, HWb2⟩ := name_it (w1.alloc (.cells #[.bool z2.neg, .string z2.num, .string z2.den] 23))
  rw [HWb2.out] at b1 b2 hch
  go_wp2_with fail
  refine (IntN (-9223372036854775808) _ (by omega) (by omega)).mono ?_
  rintro e w1 ⟨z3, rfl, h3, c1⟩
  rw [HWb2.out] at c1
  replace b1 := b1.keep c1 (by simp)
  replace b2 := b2.keep c1 (by simp)
  replace hch := hch.then c1
  clear c1
  have b3 := Blk3.alloc w1 (.bool z3.neg) (.string z3.num) (.string z3.den) 23
  replace b1 := b1.keep ((Chg.refl [] _).alloc (.cells #[.bool z3.neg, .string z3.num, .string z3.den] 23)) (by simp)
  replace b2 := b2.keep ((Chg.refl [] _).alloc (.cells #[.bool z3.neg, .string z3.num, .string z3.den] 23)) (by simp)
  replace hch := hch.then ((Chg.refl [] _).alloc (.cells #[.bool z3.neg, .string z3.num, .string z3.den] 23))
  obtain ⟨gb3, Gb3⟩ := name_it w1.heap.size
  rw [Gb3.out] at b3
  have hgb3 := Gb3.out
  obtain ⟨wb3, HWb3⟩ := name_it (w1.alloc (.cells #[.bool z3.neg, .string z3.num, .string z3.den] 23))
  rw [HWb3.out] at b1 b2 b3 hch
  go_wp2_with fail
  rw [show ((m : Int) % 4) = (j : Int) by have := HJ.out; omega]
  refine (IntN j _ (by omega) (by omega)).mono ?_
  rintro e w1 ⟨z4, rfl, h4, c1⟩
  rw [HWb3.out] at c1
  replace b1 := b1.keep c1 (by simp)
  replace b2 := b2.keep c1 (by simp)
  replace b3 := b3.keep c1 (by simp)
  replace hch := hch.then c1
  clear c1
  have b4 := Blk3.alloc w1 (.bool z4.neg) (.string z4.num) (.string z4.den) 23
  replace b1 := b1.keep ((Chg.refl [] _).alloc (.cells #[.bool z4.neg, .string z4.num, .string z4.den] 23)) (by simp)
  replace b2 := b2.keep ((Chg.refl [] _).alloc (.cells #[.bool z4.neg, .string z4.num, .string z4.den] 23)) (by simp)
  replace b3 := b3.keep ((Chg.refl [] _).alloc (.cells #[.bool z4.neg, .string z4.num, .string z4.den] 23)) (by simp)
  replace hch := hch.then ((Chg.refl [] _).alloc (.cells #[.bool z4.neg, .string z4.num, .string z4.den] 23))
  obtain ⟨gb4, Gb4⟩ := name_it w1.heap.size
  rw [Gb4.out] at b4
  have hgb4 := Gb4.out
  obtain ⟨wb4, HWb4⟩ := name_it (w1.alloc (.cells #[.bool z4.neg, .string z4.num, .string z4.den] 23))
  rw [HWb4.out] at b1 b2 b3 b4 hch
  have b1c0 := b1.c0
  have b1c1 := b1.c1
  have b1c2 := b1.c2
  have b1f0 := b1.f0
  have b1f1 := b1.f1
  have b1f2 := b1.f2
  have b1l := b1.lt
  have b2c0 := b2.c0
  have b2c1 := b2.c1
  have b2c2 := b2.c2
  have b2f0 := b2.f0
  have b2f1 := b2.f1
  have b2f2 := b2.f2
  have b2l := b2.lt
  have b3c0 := b3.c0
  have b3c1 := b3.c1
  have b3c2 := b3.c2
  have b3f0 := b3.f0
  have b3f1 := b3.f1
  have b3f2 := b3.f2
  have b3l := b3.lt
  have b4c0 := b4.c0
  have b4c1 := b4.c1
  have b4c2 := b4.c2
  have b4f0 := b4.f0
  have b4f1 := b4.f1
  have b4f2 := b4.f2
  have b4l := b4.lt
  rw [← HWb4.out] at b1c0 b1f0 b1c1 b1f1 b1c2 b1f2 b2c0 b2f0 b2c1 b2f1 b2c2 b2f2 b3c0 b3f0 b3c1 b3f1 b3c2 b3f2 b4c0 b4f0 b4c1 b4f1 b4c2 b4f2 b1l b2l b3l b4l
  go_wp2_with fail
  clear b1c0 b1f0 b1c1 b1f1 b1c2 b1f2 b1l b2c0 b2f0 b2c1 b2f1 b2c2 b2f2 b2l b3c0 b3f0 b3c1 b3f1 b3c2 b3f2 b3l b4c0 b4f0 b4c1 b4f1 b4c2 b4f2 b4l
  refine (SubtractN z2 z4 _ _ 8 8 _ h2.num h4.num (by omega)).mono ?_
  rintro e w1 ⟨u, rfl, hu, c1⟩
  rw [HWb4.out] at c1
  replace b1 := b1.keep c1 (by simp)
  replace b2 := b2.keep c1 (by simp)
  replace b3 := b3.keep c1 (by simp)
  replace b4 := b4.keep c1 (by simp)
  replace hch := hch.then c1
  clear c1
  rw [← Rat.intCast_sub] at hu
  go_wp2_with fail
  refine (Int64I u (9223372036854775807 - j) _ _ hu.num (by omega) (by omega) (by omega)).mono ?_
  rintro e w1 ⟨rfl, c1⟩
  replace b1 := b1.keep c1 (by simp)
  replace b2 := b2.keep c1 (by simp)
  replace b3 := b3.keep c1 (by simp)
  replace b4 := b4.keep c1 (by simp)
  replace hch := hch.then c1
  clear c1
  clear hu
  obtain ⟨v2, HV2⟩ := name_it w1
  rw [HV2.out] at b1 b2 b3 b4 hch ⊢
  have b1c0 := b1.c0
  have b1c1 := b1.c1
  have b1c2 := b1.c2
  have b1f0 := b1.f0
  have b1f1 := b1.f1
  have b1f2 := b1.f2
  have b1l := b1.lt
  have b2c0 := b2.c0
  have b2c1 := b2.c1
  have b2c2 := b2.c2
  have b2f0 := b2.f0
  have b2f1 := b2.f1
  have b2f2 := b2.f2
  have b2l := b2.lt
  have b3c0 := b3.c0
  have b3c1 := b3.c1
  have b3c2 := b3.c2
  have b3f0 := b3.f0
  have b3f1 := b3.f1
  have b3f2 := b3.f2
  have b3l := b3.lt
  have b4c0 := b4.c0
  have b4c1 := b4.c1
  have b4c2 := b4.c2
  have b4f0 := b4.f0
  have b4f1 := b4.f1
  have b4f2 := b4.f2
  have b4l := b4.lt
  go_wp2_with fail
  refine (AddN z3 z4 _ _ 8 8 _ h3.num h4.num (by omega)).mono ?_
  rintro e w1 ⟨u, rfl, hu, c1⟩
  clear b1c0 b1f0 b1c1 b1f1 b1c2 b1f2 b1l b2c0 b2f0 b2c1 b2f1 b2c2 b2f2 b2l b3c0 b3f0 b3c1 b3f1 b3c2 b3f2 b3l b4c0 b4f0 b4c1 b4f1 b4c2 b4f2 b4l
  replace b1 := b1.keep c1 (by simp)
  replace b2 := b2.keep c1 (by simp)
  replace b3 := b3.keep c1 (by simp)
  replace b4 := b4.keep c1 (by simp)
  replace hch := hch.then c1
  clear c1
  rw [← Rat.intCast_add] at hu
  go_wp2_with fail
  refine (Int64I u (-9223372036854775808 + j) _ _ hu.num (by omega) (by omega) (by omega)).mono ?_
  rintro e w1 ⟨rfl, c1⟩
  replace b1 := b1.keep c1 (by simp)
  replace b2 := b2.keep c1 (by simp)
  replace b3 := b3.keep c1 (by simp)
  replace b4 := b4.keep c1 (by simp)
  replace hch := hch.then c1
  clear c1
  clear hu
  obtain ⟨v2, HV2⟩ := name_it w1
  rw [HV2.out] at b1 b2 b3 b4 hch ⊢
  have b1c0 := b1.c0
  have b1c1 := b1.c1
  have b1c2 := b1.c2
  have b1f0 := b1.f0
  have b1f1 := b1.f1
  have b1f2 := b1.f2
  have b1l := b1.lt
  have b2c0 := b2.c0
  have b2c1 := b2.c1
  have b2c2 := b2.c2
  have b2f0 := b2.f0
  have b2f1 := b2.f1
  have b2f2 := b2.f2
  have b2l := b2.lt
  have b3c0 := b3.c0
  have b3c1 := b3.c1
  have b3c2 := b3.c2
  have b3f0 := b3.f0
  have b3f1 := b3.f1
  have b3f2 := b3.f2
  have b3l := b3.lt
  have b4c0 := b4.c0
  have b4c1 := b4.c1
  have b4c2 := b4.c2
  have b4f0 := b4.f0
  have b4f1 := b4.f1
  have b4f2 := b4.f2
  have b4l := b4.lt
  go_wp2_with fail
  clear b1c0 b1f0 b1c1 b1f1 b1c2 b1f2 b1l b2c0 b2f0 b2c1 b2f1 b2c2 b2f2 b2l b3c0 b3f0 b3c1 b3f1 b3c2 b3f2 b3l b4c0 b4f0 b4c1 b4f1 b4c2 b4f2 b4l
  replace b1 := b1.keep ((Chg.refl [] _).drew) (by simp)
  replace b2 := b2.keep ((Chg.refl [] _).drew) (by simp)
  replace b3 := b3.keep ((Chg.refl [] _).drew) (by simp)
  replace b4 := b4.keep ((Chg.refl [] _).drew) (by simp)
  replace hch := hch.drew
  go_region_held3 (fun w' => w'.cell? ⟨gb1, 0, none⟩ = some (.bool z1.neg) ∧ w'.cell? ⟨gb1, 1, none⟩ = some (.string z1.num) ∧ w'.cell? ⟨gb1, 2, none⟩ = some (.string z1.den) ∧ w'.cell? ⟨gb2, 0, none⟩ = some (.bool z2.neg) ∧ w'.cell? ⟨gb2, 1, none⟩ = some (.string z2.num) ∧ w'.cell? ⟨gb2, 2, none⟩ = some (.string z2.den) ∧ w'.cell? ⟨gb4, 0, none⟩ = some (.bool z4.neg) ∧ w'.cell? ⟨gb4, 1, none⟩ = some (.string z4.num) ∧ w'.cell? ⟨gb4, 2, none⟩ = some (.string z4.den)) (first | exact ⟨b1.c0, b1.c1, b1.c2, b2.c0, b2.c1, b2.c2, b4.c0, b4.c1, b4.c2⟩ | exact ⟨by simp [go_sem, b1.c0], by simp [go_sem, b1.c1], by simp [go_sem, b1.c2], by simp [go_sem, b2.c0], by simp [go_sem, b2.c1], by simp [go_sem, b2.c2], by simp [go_sem, b4.c0], by simp [go_sem, b4.c1], by simp [go_sem, b4.c2]⟩) (first
      | (go_at_call 8
         (with_reducible refine (AddN z2 z1 _ _ 8 8 _ h2.num h1.num (by omega)).mono ?_)
         rintro e w1 ⟨u, rfl, hu, c1⟩
         replace b1 := b1.keep c1 (by simp)
         replace b2 := b2.keep c1 (by simp)
         replace b3 := b3.keep c1 (by simp)
         replace b4 := b4.keep c1 (by simp)
         replace hch := hch.then c1
         rw [← Rat.intCast_add] at hu
         clear c1)
      | (go_at_call 8
         (with_reducible refine (AddN u z4 _ _ 17 8 _ hu.num h4.num (by omega)).mono ?_)
         rintro e w1 ⟨v, rfl, hv, c1⟩
         replace b1 := b1.keep c1 (by simp)
         replace b2 := b2.keep c1 (by simp)
         replace b3 := b3.keep c1 (by simp)
         replace b4 := b4.keep c1 (by simp)
         replace hch := hch.then c1
         rw [← Rat.intCast_add] at hv
         clear c1)
      | (go_at_call 6
         (with_reducible refine (Int64O v (9223372036854775807 + 1 + j) _ _ hv.num (by omega) (by omega)).mono ?_)
         rintro e w1 ⟨rfl, c1⟩
         replace b1 := b1.keep c1 (by simp)
         replace b2 := b2.keep c1 (by simp)
         replace b3 := b3.keep c1 (by simp)
         replace b4 := b4.keep c1 (by simp)
         replace hch := hch.then c1
         clear hv
         clear c1))
  all_goals
    clear hu
    obtain ⟨v2, HV2⟩ := name_it w1
    rw [HV2.out] at b1 b2 b3 b4 hch ⊢
    have b1c0 := b1.c0
    have b1c1 := b1.c1
    have b1c2 := b1.c2
    have b1f0 := b1.f0
    have b1f1 := b1.f1
    have b1f2 := b1.f2
    have b1l := b1.lt
    have b2c0 := b2.c0
    have b2c1 := b2.c1
    have b2c2 := b2.c2
    have b2f0 := b2.f0
    have b2f1 := b2.f1
    have b2f2 := b2.f2
    have b2l := b2.lt
    have b3c0 := b3.c0
    have b3c1 := b3.c1
    have b3c2 := b3.c2
    have b3f0 := b3.f0
    have b3f1 := b3.f1
    have b3f2 := b3.f2
    have b3l := b3.lt
    have b4c0 := b4.c0
    have b4c1 := b4.c1
    have b4c2 := b4.c2
    have b4f0 := b4.f0
    have b4f1 := b4.f1
    have b4f2 := b4.f2
    have b4l := b4.lt
    go_wp2_with fail
    clear b1c0 b1f0 b1c1 b1f1 b1c2 b1f2 b1l b2c0 b2f0 b2c1 b2f1 b2c2 b2f2 b2l b3c0 b3f0 b3c1 b3f1 b3c2 b3f2 b3l b4c0 b4f0 b4c1 b4f1 b4c2 b4f2 b4l
    replace b1 := b1.keep ((Chg.refl [] _).drew) (by simp)
    replace b2 := b2.keep ((Chg.refl [] _).drew) (by simp)
    replace b3 := b3.keep ((Chg.refl [] _).drew) (by simp)
    replace b4 := b4.keep ((Chg.refl [] _).drew) (by simp)
    replace hch := hch.drew
    go_region_held3 (fun w' => w'.cell? ⟨gb1, 0, none⟩ = some (.bool z1.neg) ∧ w'.cell? ⟨gb1, 1, none⟩ = some (.string z1.num) ∧ w'.cell? ⟨gb1, 2, none⟩ = some (.string z1.den) ∧ w'.cell? ⟨gb3, 0, none⟩ = some (.bool z3.neg) ∧ w'.cell? ⟨gb3, 1, none⟩ = some (.string z3.num) ∧ w'.cell? ⟨gb3, 2, none⟩ = some (.string z3.den) ∧ w'.cell? ⟨gb4, 0, none⟩ = some (.bool z4.neg) ∧ w'.cell? ⟨gb4, 1, none⟩ = some (.string z4.num) ∧ w'.cell? ⟨gb4, 2, none⟩ = some (.string z4.den)) (first | exact ⟨b1.c0, b1.c1, b1.c2, b3.c0, b3.c1, b3.c2, b4.c0, b4.c1, b4.c2⟩ | exact ⟨by simp [go_sem, b1.c0], by simp [go_sem, b1.c1], by simp [go_sem, b1.c2], by simp [go_sem, b3.c0], by simp [go_sem, b3.c1], by simp [go_sem, b3.c2], by simp [go_sem, b4.c0], by simp [go_sem, b4.c1], by simp [go_sem, b4.c2]⟩) (first
        | (go_at_call 7
           (with_reducible refine (SubtractN z3 z1 _ _ 8 8 _ h3.num h1.num (by omega)).mono ?_)
           rintro e w1 ⟨u, rfl, hu, c1⟩
           replace b1 := b1.keep c1 (by simp)
           replace b2 := b2.keep c1 (by simp)
           replace b3 := b3.keep c1 (by simp)
           replace b4 := b4.keep c1 (by simp)
           replace hch := hch.then c1
           rw [← Rat.intCast_sub] at hu
           clear c1)
        | (go_at_call 7
           (with_reducible refine (SubtractN u z4 _ _ 17 8 _ hu.num h4.num (by omega)).mono ?_)
           rintro e w1 ⟨v, rfl, hv, c1⟩
           replace b1 := b1.keep c1 (by simp)
           replace b2 := b2.keep c1 (by simp)
           replace b3 := b3.keep c1 (by simp)
           replace b4 := b4.keep c1 (by simp)
           replace hch := hch.then c1
           rw [← Rat.intCast_sub] at hv
           clear c1)
        | (go_at_call 6
           (with_reducible refine (Int64O v (-9223372036854775808 - 1 - j) _ _ hv.num (by omega) (by omega)).mono ?_)
           rintro e w1 ⟨rfl, c1⟩
           replace b1 := b1.keep c1 (by simp)
           replace b2 := b2.keep c1 (by simp)
           replace b3 := b3.keep c1 (by simp)
           replace b4 := b4.keep c1 (by simp)
           replace hch := hch.then c1
           clear hv
           clear c1))
    all_goals
      clear hu
      have b1c0 := b1.c0
      have b1c1 := b1.c1
      have b1c2 := b1.c2
      have b1f0 := b1.f0
      have b1f1 := b1.f1
      have b1f2 := b1.f2
      have b1l := b1.lt
      have b2c0 := b2.c0
      have b2c1 := b2.c1
      have b2c2 := b2.c2
      have b2f0 := b2.f0
      have b2f1 := b2.f1
      have b2f2 := b2.f2
      have b2l := b2.lt
      have b3c0 := b3.c0
      have b3c1 := b3.c1
      have b3c2 := b3.c2
      have b3f0 := b3.f0
      have b3f1 := b3.f1
      have b3f2 := b3.f2
      have b3l := b3.lt
      have b4c0 := b4.c0
      have b4c1 := b4.c1
      have b4c2 := b4.c2
      have b4f0 := b4.f0
      have b4f1 := b4.f1
      have b4f2 := b4.f2
      have b4l := b4.lt
      go_wp2_with fail
      clear b1c0 b1f0 b1c1 b1f1 b1c2 b1f2 b1l b2c0 b2f0 b2c1 b2f1 b2c2 b2f2 b2l b3c0 b3f0 b3c1 b3f1 b3c2 b3f2 b3l b4c0 b4f0 b4c1 b4f1 b4c2 b4f2 b4l
      refine (awake2_any _).mono ?_
      rintro e w3 ⟨rfl, c1⟩
      replace b1 := b1.keep c1 (by simp)
      replace b2 := b2.keep c1 (by simp)
      replace b3 := b3.keep c1 (by simp)
      replace b4 := b4.keep c1 (by simp)
      replace hch := hch.then c1
      clear c1
      have b1c0 := b1.c0
      have b1c1 := b1.c1
      have b1c2 := b1.c2
      have b1f0 := b1.f0
      have b1f1 := b1.f1
      have b1f2 := b1.f2
      have b1l := b1.lt
      have b2c0 := b2.c0
      have b2c1 := b2.c1
      have b2c2 := b2.c2
      have b2f0 := b2.f0
      have b2f1 := b2.f1
      have b2f2 := b2.f2
      have b2l := b2.lt
      have b3c0 := b3.c0
      have b3c1 := b3.c1
      have b3c2 := b3.c2
      have b3f0 := b3.f0
      have b3f1 := b3.f1
      have b3f2 := b3.f2
      have b3l := b3.lt
      have b4c0 := b4.c0
      have b4c1 := b4.c1
      have b4c2 := b4.c2
      have b4f0 := b4.f0
      have b4f1 := b4.f1
      have b4f2 := b4.f2
      have b4l := b4.lt
      have hmj : ((m : Int) % 4) = (j : Int) := by have := HJ.out; omega
      go_wp2_with fail
      go_ret
      exact ⟨ret_eq (by simp), hch⟩

end Go.Proofs.YtlhmimbooampdaaDoor
