/-
  Law: Divide.
-/
import Derived.Test.YtcliibhooeffdaaGreatDoorLA1
namespace Go.Proofs.YtcliibhooeffdaaGreatDoor
open Go.RowKit Nd
set_option maxRecDepth 20000 in
set_option maxHeartbeats 2000000 in
theorem ldivide_any (x y : Q3) (w : World) :
    Calls Tryz.prog 6 #[.agg #[.bool x.neg, .string x.num, .string x.den], .agg #[.bool y.neg, .string y.num, .string y.den]] w fun e w' => e = .returned (.bool true) ∧ Chg [] w w' := by
  have hch : Chg [] w ((((w).alloc (.cells #[.bool x.neg, .string x.num, .string x.den] 23)).alloc (.cells #[.bool y.neg, .string y.num, .string y.den] 23)).alloc (.cells #[.bool x.neg, .string x.num, .string x.den, .bool y.neg, .string y.num, .string y.den] 23)) := ((((Chg.refl _ _).alloc _).alloc _).alloc _)
  have b1 := Blk3.alloc (w) (.bool x.neg) (.string x.num) (.string x.den) 23
  replace b1 := b1.keep ((Chg.refl [] _).alloc (.cells #[.bool y.neg, .string y.num, .string y.den] 23)) (by simp)
  replace b1 := b1.keep ((Chg.refl [] _).alloc (.cells #[.bool x.neg, .string x.num, .string x.den, .bool y.neg, .string y.num, .string y.den] 23)) (by simp)
  have b2 := Blk3.alloc ((w).alloc (.cells #[.bool x.neg, .string x.num, .string x.den] 23)) (.bool y.neg) (.string y.num) (.string y.den) 23
  replace b2 := b2.keep ((Chg.refl [] _).alloc (.cells #[.bool x.neg, .string x.num, .string x.den, .bool y.neg, .string y.num, .string y.den] 23)) (by simp)
  have hr := Rats.two (((w).alloc (.cells #[.bool x.neg, .string x.num, .string x.den] 23)).alloc (.cells #[.bool y.neg, .string y.num, .string y.den] 23)) x y 23
  simp only [World.size_alloc] at hr b1 b2
  cases hf : fewQ [x, y]
  · have HF := Lib.hid hf
    clear hf
    go_enter Tryz.func6, Tryz.ntmps6
    go_wp2_with fail
    refine (few2_any [x, y] (w.heap.size + 1 + 1) 2 _ hr (by simp)).mono ?_
    rintro e w1 ⟨rfl, c1⟩
    rw [HF.out]
    replace hch := hch.then c1
    clear c1
    go_wp2_with fail
    refine (awake2_any _).mono ?_
    rintro e w2 ⟨rfl, c1⟩
    replace hch := hch.then c1
    clear c1
    go_wp2_with fail
    go_ret
    exact ⟨rfl, hch⟩
  · have hss : x.num.size ≤ 24 ∧ x.den.size ≤ 24 ∧ y.num.size ≤ 24 ∧ y.den.size ≤ 24 := by simpa [fewQ, shortQ, and_assoc] using hf
    have HF := Lib.hid hf
    obtain ⟨sx1, sx2, sy1, sy2⟩ := hss
    obtain ⟨p, Hp⟩ := name_it (ratOf x)
    have nx : Num x p 24 := ⟨Hp.out, ⟨sx1, sx2⟩, by omega⟩
    obtain ⟨q, Hq⟩ := name_it (ratOf y)
    have ny : Num y q 24 := ⟨Hq.out, ⟨sy1, sy2⟩, by omega⟩
    clear hf sx1 sx2 sy1 sy2 Hp Hq
    go_enter Tryz.func6, Tryz.ntmps6
    go_wp2_with fail
    refine (few2_any [x, y] (w.heap.size + 1 + 1) 2 _ hr (by simp)).mono ?_
    rintro e w1 ⟨rfl, c1⟩
    rw [HF.out]
    replace b1 := b1.keep c1 (by simp)
    replace b2 := b2.keep c1 (by simp)
    replace hch := hch.then c1
    clear c1 hr HF
    have b1c0 := b1.c0
    have b1c1 := b1.c1
    have b1c2 := b1.c2
    have b1f0 := b1.f0
    have b1f1 := b1.f1
    have b1f2 := b1.f2
    have b1l := b1.lt
    have b2c0 := b2.c0
    have b2c1 := b2.c1
    have b2c2 := b2.c2
    have b2f0 := b2.f0
    have b2f1 := b2.f1
    have b2f2 := b2.f2
    have b2l := b2.lt
    go_wp2_with fail
    clear b1c0 b1f0 b1c1 b1f1 b1c2 b1f2 b1l b2c0 b2f0 b2c1 b2f1 b2c2 b2f2 b2l
    obtain ⟨w0, HW0⟩ := name_it w1
    rw [HW0.out] at b1 b2 hch ⊢
    by_cases h0 : q = 0
    · subst h0
      refine (Divide_zeroN x y p 24 24 _ nx ny (by omega)).mono ?_
      rintro e w1 ⟨rfl, c1⟩
      replace b1 := b1.keep c1 (by simp)
      replace b2 := b2.keep c1 (by simp)
      replace hch := hch.then c1
      clear c1
      have b3 := Blk3.alloc w1 (.bool false) (.string ⟨#[]⟩) (.string ⟨#[]⟩) 23
      replace b1 := b1.keep ((Chg.refl [] _).alloc (.cells #[.bool false, .string ⟨#[]⟩, .string ⟨#[]⟩] 23)) (by simp)
      replace b2 := b2.keep ((Chg.refl [] _).alloc (.cells #[.bool false, .string ⟨#[]⟩, .string ⟨#[]⟩] 23)) (by simp)
      replace hch := hch.then ((Chg.refl [] _).alloc (.cells #[.bool false, .string ⟨#[]⟩, .string ⟨#[]⟩] 23))
      obtain ⟨gb3, Gb3⟩ := name_it w1.heap.size
      rw [Gb3.out] at b3
      have hgb3 := Gb3.out
      obtain ⟨wb3, HWb3⟩ := name_it (w1.alloc (.cells #[.bool false, .string ⟨#[]⟩, .string ⟨#[]⟩] 23))
      rw [HWb3.out] at b1 b2 b3 hch
      have b1c0 := b1.c0
      have b1c1 := b1.c1
      have b1c2 := b1.c2
      have b1f0 := b1.f0
      have b1f1 := b1.f1
      have b1f2 := b1.f2
      have b1l := b1.lt
      have b2c0 := b2.c0
      have b2c1 := b2.c1
      have b2c2 := b2.c2
      have b2f0 := b2.f0
      have b2f1 := b2.f1
      have b2f2 := b2.f2
      have b2l := b2.lt
      have b3c0 := b3.c0
      have b3c1 := b3.c1
      have b3c2 := b3.c2
      have b3f0 := b3.f0
      have b3f1 := b3.f1
      have b3f2 := b3.f2
      have b3l := b3.lt
      rw [← HWb3.out] at b1c0 b1f0 b1c1 b1f1 b1c2 b1f2 b2c0 b2f0 b2c1 b2f1 b2c2 b2f2 b3c0 b3f0 b3c1 b3f1 b3c2 b3f2 b1l b2l b3l
      go_wp2_with fail
      refine (rDivide_zeroN x y p 24 24 _ nx ny (by omega)).mono ?_
      rintro e w1 ⟨rfl, c1⟩
      rw [HWb3.out] at c1
      clear b1c0 b1f0 b1c1 b1f1 b1c2 b1f2 b1l b2c0 b2f0 b2c1 b2f1 b2c2 b2f2 b2l b3c0 b3f0 b3c1 b3f1 b3c2 b3f2 b3l
      replace b1 := b1.keep c1 (by simp)
      replace b2 := b2.keep c1 (by simp)
      replace b3 := b3.keep c1 (by simp)
      replace hch := hch.then c1
      clear c1
      have b4 := Blk3.alloc w1 (.bool false) (.string ⟨#[]⟩) (.string ⟨#[]⟩) 23
      replace b1 := b1.keep ((Chg.refl [] _).alloc (.cells #[.bool false, .string ⟨#[]⟩, .string ⟨#[]⟩] 23)) (by simp)
      replace b2 := b2.keep ((Chg.refl [] _).alloc (.cells #[.bool false, .string ⟨#[]⟩, .string ⟨#[]⟩] 23)) (by simp)
      replace b3 := b3.keep ((Chg.refl [] _).alloc (.cells #[.bool false, .string ⟨#[]⟩, .string ⟨#[]⟩] 23)) (by simp)
      replace hch := hch.then ((Chg.refl [] _).alloc (.cells #[.bool false, .string ⟨#[]⟩, .string ⟨#[]⟩] 23))
      obtain ⟨gb4, Gb4⟩ := name_it w1.heap.size
      rw [Gb4.out] at b4
      have hgb4 := Gb4.out
      obtain ⟨wb4, HWb4⟩ := name_it (w1.alloc (.cells #[.bool false, .string ⟨#[]⟩, .string ⟨#[]⟩] 23))
      rw [HWb4.out] at b1 b2 b3 b4 hch
      go_upto_region 5 with fail
      rw [HWb4.out]
      have b1c0 := b1.c0
      have b1c1 := b1.c1
      have b1c2 := b1.c2
      have b1f0 := b1.f0
      have b1f1 := b1.f1
      have b1f2 := b1.f2
      have b1l := b1.lt
      have b2c0 := b2.c0
      have b2c1 := b2.c1
      have b2c2 := b2.c2
      have b2f0 := b2.f0
      have b2f1 := b2.f1
      have b2f2 := b2.f2
      have b2l := b2.lt
      have b3c0 := b3.c0
      have b3c1 := b3.c1
      have b3c2 := b3.c2
      have b3f0 := b3.f0
      have b3f1 := b3.f1
      have b3f2 := b3.f2
      have b3l := b3.lt
      have b4c0 := b4.c0
      have b4c1 := b4.c1
      have b4c2 := b4.c2
      have b4f0 := b4.f0
      have b4f1 := b4.f1
      have b4f2 := b4.f2
      have b4l := b4.lt
      go_wp2_with fail
      clear b1c0 b1f0 b1c1 b1f1 b1c2 b1f2 b1l b2c0 b2f0 b2c1 b2f1 b2c2 b2f2 b2l b3c0 b3f0 b3c1 b3f1 b3c2 b3f2 b3l b4c0 b4f0 b4c1 b4f1 b4c2 b4f2 b4l
      refine (awake2_any _).mono ?_
      rintro e w3 ⟨rfl, c1⟩
      replace b1 := b1.keep c1 (by simp)
      replace b2 := b2.keep c1 (by simp)
      replace b3 := b3.keep c1 (by simp)
      replace b4 := b4.keep c1 (by simp)
      replace hch := hch.then c1
      clear c1
      have b1c0 := b1.c0
      have b1c1 := b1.c1
      have b1c2 := b1.c2
      have b1f0 := b1.f0
      have b1f1 := b1.f1
      have b1f2 := b1.f2
      have b1l := b1.lt
      have b2c0 := b2.c0
      have b2c1 := b2.c1
      have b2c2 := b2.c2
      have b2f0 := b2.f0
      have b2f1 := b2.f1
      have b2f2 := b2.f2
      have b2l := b2.lt
      have b3c0 := b3.c0
      have b3c1 := b3.c1
      have b3c2 := b3.c2
      have b3f0 := b3.f0
      have b3f1 := b3.f1
      have b3f2 := b3.f2
      have b3l := b3.lt
      have b4c0 := b4.c0
      have b4c1 := b4.c1
      have b4c2 := b4.c2
      have b4f0 := b4.f0
      have b4f1 := b4.f1
      have b4f2 := b4.f2
      have b4l := b4.lt
      go_wp2_with fail
      go_ret
      exact ⟨ret_eq (by simp), hch⟩
    · have H0 := Lib.hid h0
      clear h0
      refine (DivideN x y p q 24 24 _ nx ny H0.out (by omega)).mono ?_
      rintro e w1 ⟨z, rfl, hz, c1⟩
      replace b1 := b1.keep c1 (by simp)
      replace b2 := b2.keep c1 (by simp)
      replace hch := hch.then c1
      clear c1
      have b3 := Blk3.alloc w1 (.bool z.neg) (.string z.num) (.string z.den) 23
      replace b1 := b1.keep ((Chg.refl [] _).alloc (.cells #[.bool z.neg, .string z.num, .string z.den] 23)) (by simp)
      replace b2 := b2.keep ((Chg.refl [] _).alloc (.cells #[.bool z.neg, .string z.num, .string z.den] 23)) (by simp)
      replace hch := hch.then ((Chg.refl [] _).alloc (.cells #[.bool z.neg, .string z.num, .string z.den] 23))
      obtain ⟨gb3, Gb3⟩ := name_it w1.heap.size
      rw [Gb3.out] at b3
      have hgb3 := Gb3.out
      obtain ⟨wb3, HWb3⟩ := name_it (w1.alloc (.cells #[.bool z.neg, .string z.num, .string z.den] 23))
      rw [HWb3.out] at b1 b2 b3 hch
      have b1c0 := b1.c0
      have b1c1 := b1.c1
      have b1c2 := b1.c2
      have b1f0 := b1.f0
      have b1f1 := b1.f1
      have b1f2 := b1.f2
      have b1l := b1.lt
      have b2c0 := b2.c0
      have b2c1 := b2.c1
      have b2c2 := b2.c2
      have b2f0 := b2.f0
      have b2f1 := b2.f1
      have b2f2 := b2.f2
      have b2l := b2.lt
      have b3c0 := b3.c0
      have b3c1 := b3.c1
      have b3c2 := b3.c2
      have b3f0 := b3.f0
      have b3f1 := b3.f1
      have b3f2 := b3.f2
      have b3l := b3.lt
      rw [← HWb3.out] at b1c0 b1f0 b1c1 b1f1 b1c2 b1f2 b2c0 b2f0 b2c1 b2f1 b2c2 b2f2 b3c0 b3f0 b3c1 b3f1 b3c2 b3f2 b1l b2l b3l
      go_wp2_with fail
      refine (rDivideN x y p q 24 24 _ nx ny H0.out (by omega)).mono ?_
      rintro e w1 ⟨y0, rfl, k0, c1⟩
      obtain rfl := hz.unique k0
      rw [HWb3.out] at c1
      clear b1c0 b1f0 b1c1 b1f1 b1c2 b1f2 b1l b2c0 b2f0 b2c1 b2f1 b2c2 b2f2 b2l b3c0 b3f0 b3c1 b3f1 b3c2 b3f2 b3l
      replace b1 := b1.keep c1 (by simp)
      replace b2 := b2.keep c1 (by simp)
      replace b3 := b3.keep c1 (by simp)
      replace hch := hch.then c1
      clear c1
      have b4 := Blk3.alloc w1 (.bool z.neg) (.string z.num) (.string z.den) 23
      replace b1 := b1.keep ((Chg.refl [] _).alloc (.cells #[.bool z.neg, .string z.num, .string z.den] 23)) (by simp)
      replace b2 := b2.keep ((Chg.refl [] _).alloc (.cells #[.bool z.neg, .string z.num, .string z.den] 23)) (by simp)
      replace b3 := b3.keep ((Chg.refl [] _).alloc (.cells #[.bool z.neg, .string z.num, .string z.den] 23)) (by simp)
      replace hch := hch.then ((Chg.refl [] _).alloc (.cells #[.bool z.neg, .string z.num, .string z.den] 23))
      obtain ⟨gb4, Gb4⟩ := name_it w1.heap.size
      rw [Gb4.out] at b4
      have hgb4 := Gb4.out
      obtain ⟨wb4, HWb4⟩ := name_it (w1.alloc (.cells #[.bool z.neg, .string z.num, .string z.den] 23))
      rw [HWb4.out] at b1 b2 b3 b4 hch
      go_upto_region 5 with fail
      rw [HWb4.out]
      have b1c0 := b1.c0
      have b1c1 := b1.c1
      have b1c2 := b1.c2
      have b1f0 := b1.f0
      have b1f1 := b1.f1
      have b1f2 := b1.f2
      have b1l := b1.lt
      have b2c0 := b2.c0
      have b2c1 := b2.c1
      have b2c2 := b2.c2
      have b2f0 := b2.f0
      have b2f1 := b2.f1
      have b2f2 := b2.f2
      have b2l := b2.lt
      have b3c0 := b3.c0
      have b3c1 := b3.c1
      have b3c2 := b3.c2
      have b3f0 := b3.f0
      have b3f1 := b3.f1
      have b3f2 := b3.f2
      have b3l := b3.lt
      have b4c0 := b4.c0
      have b4c1 := b4.c1
      have b4c2 := b4.c2
      have b4f0 := b4.f0
      have b4f1 := b4.f1
      have b4f2 := b4.f2
      have b4l := b4.lt
      go_wp2_with fail
      clear b1c0 b1f0 b1c1 b1f1 b1c2 b1f2 b1l b2c0 b2f0 b2c1 b2f1 b2c2 b2f2 b2l b3c0 b3f0 b3c1 b3f1 b3c2 b3f2 b3l b4c0 b4f0 b4c1 b4f1 b4c2 b4f2 b4l
      refine (awake2_any _).mono ?_
      rintro e w3 ⟨rfl, c1⟩
      replace b1 := b1.keep c1 (by simp)
      replace b2 := b2.keep c1 (by simp)
      replace b3 := b3.keep c1 (by simp)
      replace b4 := b4.keep c1 (by simp)
      replace hch := hch.then c1
      clear c1
      have b1c0 := b1.c0
      have b1c1 := b1.c1
      have b1c2 := b1.c2
      have b1f0 := b1.f0
      have b1f1 := b1.f1
      have b1f2 := b1.f2
      have b1l := b1.lt
      have b2c0 := b2.c0
      have b2c1 := b2.c1
      have b2c2 := b2.c2
      have b2f0 := b2.f0
      have b2f1 := b2.f1
      have b2f2 := b2.f2
      have b2l := b2.lt
      have b3c0 := b3.c0
      have b3c1 := b3.c1
      have b3c2 := b3.c2
      have b3f0 := b3.f0
      have b3f1 := b3.f1
      have b3f2 := b3.f2
      have b3l := b3.lt
      have b4c0 := b4.c0
      have b4c1 := b4.c1
      have b4c2 := b4.c2
      have b4f0 := b4.f0
      have b4f1 := b4.f1
      have b4f2 := b4.f2
      have b4l := b4.lt
      go_wp2_with fail
      go_ret
      exact ⟨ret_eq (by simp), hch⟩

end Go.Proofs.YtcliibhooeffdaaGreatDoor
