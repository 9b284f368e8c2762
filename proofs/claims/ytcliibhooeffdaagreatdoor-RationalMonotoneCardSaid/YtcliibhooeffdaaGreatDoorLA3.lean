/-
  Law: Monotone.
-/
import Derived.Test.YtcliibhooeffdaaGreatDoorLA1
namespace Go.Proofs.YtcliibhooeffdaaGreatDoor
open Go.RowKit Nd
theorem sg_three (q : Rat) : sg q = -1 ∨ sg q = 0 ∨ sg q = 1 := by
  unfold sg
  split
  · exact .inl rfl
  · split
    · exact .inr (.inl rfl)
    · exact .inr (.inr rfl)
theorem sg_pos {q : Rat} (h : 0 < q) : sg q = 1 := by unfold sg; rw [if_neg (by grind), if_neg (by grind)]
theorem sg_ng {q : Rat} (h : q < 0) : sg q = -1 := by unfold sg; rw [if_pos h]
theorem tri (p : Rat) : p < 0 ∨ p = 0 ∨ 0 < p := by
  by_cases h : p < 0
  · exact .inl h
  · by_cases h2 : p = 0
    · exact .inr (.inl h2)
    · exact .inr (.inr (by grind))
theorem sg_times (p r : Rat) : sg (p * r) = sg p * sg r := by
  rcases tri p with hp | rfl | hp
  · rcases tri r with hr | rfl | hr
    · have := Rat.mul_pos (show 0 < -p by grind) (show 0 < -r by grind)
      rw [sg_ng hp, sg_ng hr, sg_pos (by grind)]; rfl
    · rw [Rat.mul_zero]; simp [sg]
    · have := Rat.mul_pos (show 0 < -p by grind) hr
      rw [sg_ng hp, sg_pos hr, sg_ng (by grind)]; rfl
  · rw [Rat.zero_mul]; simp [sg]
  · rcases tri r with hr | rfl | hr
    · have := Rat.mul_pos hp (show 0 < -r by grind)
      rw [sg_pos hp, sg_ng hr, sg_ng (by grind)]; rfl
    · rw [Rat.mul_zero]; simp [sg]
    · have := Rat.mul_pos hp hr
      rw [sg_pos hp, sg_pos hr, sg_pos this]; rfl
theorem qo_plus (p q r : Rat) : qo (p + r) (q + r) = qo p q := by unfold qo; congr 1; grind
theorem qo_scale (p q r : Rat) : qo (p * r) (q * r) = qo p q * sg r := by
  unfold qo; rw [← sg_times]; congr 1; grind

set_option maxRecDepth 20000 in
set_option maxHeartbeats 2000000 in
theorem lmonotone_any (x y z : Q3) (w : World) :
    Calls Tryz.prog 14 #[.agg #[.bool x.neg, .string x.num, .string x.den], .agg #[.bool y.neg, .string y.num, .string y.den], .agg #[.bool z.neg, .string z.num, .string z.den]] w fun e w' => e = .returned (.bool true) ∧ Chg [] w w' := by
  have hch : Chg [] w (((((w).alloc (.cells #[.bool x.neg, .string x.num, .string x.den] 23)).alloc (.cells #[.bool y.neg, .string y.num, .string y.den] 23)).alloc (.cells #[.bool z.neg, .string z.num, .string z.den] 23)).alloc (.cells #[.bool x.neg, .string x.num, .string x.den, .bool y.neg, .string y.num, .string y.den, .bool z.neg, .string z.num, .string z.den] 23)) := (((((Chg.refl _ _).alloc _).alloc _).alloc _).alloc _)
  have b1 := Blk3.alloc (w) (.bool x.neg) (.string x.num) (.string x.den) 23
  replace b1 := b1.keep ((Chg.refl [] _).alloc (.cells #[.bool y.neg, .string y.num, .string y.den] 23)) (by simp)
  replace b1 := b1.keep ((Chg.refl [] _).alloc (.cells #[.bool z.neg, .string z.num, .string z.den] 23)) (by simp)
  replace b1 := b1.keep ((Chg.refl [] _).alloc (.cells #[.bool x.neg, .string x.num, .string x.den, .bool y.neg, .string y.num, .string y.den, .bool z.neg, .string z.num, .string z.den] 23)) (by simp)
  have b2 := Blk3.alloc ((w).alloc (.cells #[.bool x.neg, .string x.num, .string x.den] 23)) (.bool y.neg) (.string y.num) (.string y.den) 23
  replace b2 := b2.keep ((Chg.refl [] _).alloc (.cells #[.bool z.neg, .string z.num, .string z.den] 23)) (by simp)
  replace b2 := b2.keep ((Chg.refl [] _).alloc (.cells #[.bool x.neg, .string x.num, .string x.den, .bool y.neg, .string y.num, .string y.den, .bool z.neg, .string z.num, .string z.den] 23)) (by simp)
  have b3 := Blk3.alloc (((w).alloc (.cells #[.bool x.neg, .string x.num, .string x.den] 23)).alloc (.cells #[.bool y.neg, .string y.num, .string y.den] 23)) (.bool z.neg) (.string z.num) (.string z.den) 23
  replace b3 := b3.keep ((Chg.refl [] _).alloc (.cells #[.bool x.neg, .string x.num, .string x.den, .bool y.neg, .string y.num, .string y.den, .bool z.neg, .string z.num, .string z.den] 23)) (by simp)
  have hr := Rats.three ((((w).alloc (.cells #[.bool x.neg, .string x.num, .string x.den] 23)).alloc (.cells #[.bool y.neg, .string y.num, .string y.den] 23)).alloc (.cells #[.bool z.neg, .string z.num, .string z.den] 23)) x y z 23
  simp only [World.size_alloc] at hr b1 b2 b3
  cases hf : fewQ [x, y, z]
  · have HF := Lib.hid hf
    clear hf
    go_enter Tryz.func14, Tryz.ntmps14
    go_wp2_with fail
    refine (few2_any [x, y, z] (w.heap.size + 1 + 1 + 1) 3 _ hr (by simp)).mono ?_
    rintro e w1 ⟨rfl, c1⟩
    rw [HF.out]
    replace hch := hch.then c1
    clear c1
    go_wp2_with fail
    refine (awake2_any _).mono ?_
    rintro e w2 ⟨rfl, c1⟩
    replace hch := hch.then c1
    clear c1
    go_wp2_with fail
    go_ret
    exact ⟨rfl, hch⟩
  · have hss : x.num.size ≤ 24 ∧ x.den.size ≤ 24 ∧ y.num.size ≤ 24 ∧ y.den.size ≤ 24 ∧ z.num.size ≤ 24 ∧ z.den.size ≤ 24 := by simpa [fewQ, shortQ, and_assoc] using hf
    have HF := Lib.hid hf
    obtain ⟨sx1, sx2, sy1, sy2, sz1, sz2⟩ := hss
    obtain ⟨p, Hp⟩ := name_it (ratOf x)
    have nx : Num x p 24 := ⟨Hp.out, ⟨sx1, sx2⟩, by omega⟩
    obtain ⟨q, Hq⟩ := name_it (ratOf y)
    have ny : Num y q 24 := ⟨Hq.out, ⟨sy1, sy2⟩, by omega⟩
    obtain ⟨r, Hr⟩ := name_it (ratOf z)
    have nz : Num z r 24 := ⟨Hr.out, ⟨sz1, sz2⟩, by omega⟩
    clear hf sx1 sx2 sy1 sy2 sz1 sz2 Hp Hq Hr
    go_enter Tryz.func14, Tryz.ntmps14
    go_wp2_with fail
    refine (few2_any [x, y, z] (w.heap.size + 1 + 1 + 1) 3 _ hr (by simp)).mono ?_
    rintro e w1 ⟨rfl, c1⟩
    rw [HF.out]
    replace b1 := b1.keep c1 (by simp)
    replace b2 := b2.keep c1 (by simp)
    replace b3 := b3.keep c1 (by simp)
    replace hch := hch.then c1
    clear c1 hr HF
    have b1c0 := b1.c0
    have b1c1 := b1.c1
    have b1c2 := b1.c2
    have b1f0 := b1.f0
    have b1f1 := b1.f1
    have b1f2 := b1.f2
    have b1l := b1.lt
    have b2c0 := b2.c0
    have b2c1 := b2.c1
    have b2c2 := b2.c2
    have b2f0 := b2.f0
    have b2f1 := b2.f1
    have b2f2 := b2.f2
    have b2l := b2.lt
    have b3c0 := b3.c0
    have b3c1 := b3.c1
    have b3c2 := b3.c2
    have b3f0 := b3.f0
    have b3f1 := b3.f1
    have b3f2 := b3.f2
    have b3l := b3.lt
    go_wp2_with fail
    clear b1c0 b1f0 b1c1 b1f1 b1c2 b1f2 b1l b2c0 b2f0 b2c1 b2f1 b2c2 b2f2 b2l b3c0 b3f0 b3c1 b3f1 b3c2 b3f2 b3l
    obtain ⟨w0, HW0⟩ := name_it w1
    rw [HW0.out] at b1 b2 b3 hch ⊢
    refine (CompareN x y p q 24 24 _ nx ny (by omega)).mono ?_
    rintro e w1 ⟨rfl, c1⟩
    replace b1 := b1.keep c1 (by simp)
    replace b2 := b2.keep c1 (by simp)
    replace b3 := b3.keep c1 (by simp)
    replace hch := hch.then c1
    clear c1
    have b1c0 := b1.c0
    have b1c1 := b1.c1
    have b1c2 := b1.c2
    have b1f0 := b1.f0
    have b1f1 := b1.f1
    have b1f2 := b1.f2
    have b1l := b1.lt
    have b2c0 := b2.c0
    have b2c1 := b2.c1
    have b2c2 := b2.c2
    have b2f0 := b2.f0
    have b2f1 := b2.f1
    have b2f2 := b2.f2
    have b2l := b2.lt
    have b3c0 := b3.c0
    have b3c1 := b3.c1
    have b3c2 := b3.c2
    have b3f0 := b3.f0
    have b3f1 := b3.f1
    have b3f2 := b3.f2
    have b3l := b3.lt
    go_wp2_with fail
    clear b1c0 b1f0 b1c1 b1f1 b1c2 b1f2 b1l b2c0 b2f0 b2c1 b2f1 b2c2 b2f2 b2l b3c0 b3f0 b3c1 b3f1 b3c2 b3f2 b3l
    obtain ⟨w2, HW2⟩ := name_it w1
    rw [HW2.out] at b1 b2 b3 hch ⊢
    replace b1 := b1.keep ((Chg.refl [] _).drew) (by simp)
    replace b2 := b2.keep ((Chg.refl [] _).drew) (by simp)
    replace b3 := b3.keep ((Chg.refl [] _).drew) (by simp)
    replace hch := hch.drew
    go_region_held3 (fun w' => w'.cell? ⟨w.heap.size, 0, none⟩ = some (.bool x.neg) ∧ w'.cell? ⟨w.heap.size, 1, none⟩ = some (.string x.num) ∧ w'.cell? ⟨w.heap.size, 2, none⟩ = some (.string x.den) ∧ w'.cell? ⟨w.heap.size + 1, 0, none⟩ = some (.bool y.neg) ∧ w'.cell? ⟨w.heap.size + 1, 1, none⟩ = some (.string y.num) ∧ w'.cell? ⟨w.heap.size + 1, 2, none⟩ = some (.string y.den) ∧ w'.cell? ⟨w.heap.size + 1 + 1, 0, none⟩ = some (.bool z.neg) ∧ w'.cell? ⟨w.heap.size + 1 + 1, 1, none⟩ = some (.string z.num) ∧ w'.cell? ⟨w.heap.size + 1 + 1, 2, none⟩ = some (.string z.den)) (first | exact ⟨b1.c0, b1.c1, b1.c2, b2.c0, b2.c1, b2.c2, b3.c0, b3.c1, b3.c2⟩ | exact ⟨by simp [go_sem, b1.c0], by simp [go_sem, b1.c1], by simp [go_sem, b1.c2], by simp [go_sem, b2.c0], by simp [go_sem, b2.c1], by simp [go_sem, b2.c2], by simp [go_sem, b3.c0], by simp [go_sem, b3.c1], by simp [go_sem, b3.c2]⟩) (first
        | (go_at_call 30
           (with_reducible refine (AddN x z p r 24 24 _ nx nz (by omega)).mono ?_)
           rintro e w1 ⟨u, rfl, hu, c1⟩
           replace b1 := b1.keep c1 (by simp)
           replace b2 := b2.keep c1 (by simp)
           replace b3 := b3.keep c1 (by simp)
           replace hch := hch.then c1
           clear c1)
        | (go_at_call 30
           (with_reducible refine (AddN y z q r 24 24 _ ny nz (by omega)).mono ?_)
           rintro e w1 ⟨v, rfl, hv, c1⟩
           replace b1 := b1.keep c1 (by simp)
           replace b2 := b2.keep c1 (by simp)
           replace b3 := b3.keep c1 (by simp)
           replace hch := hch.then c1
           clear c1)
        | (go_at_call 22
           (with_reducible refine (CompareN u v (p + r) (q + r) 49 49 _ hu.num hv.num (by omega)).mono ?_)
           rintro e w1 ⟨rfl, c1⟩
           replace b1 := b1.keep c1 (by simp)
           replace b2 := b2.keep c1 (by simp)
           replace b3 := b3.keep c1 (by simp)
           replace hch := hch.then c1
           rw [qo_plus]
           clear c1))
    all_goals
      clear hu hv
      obtain ⟨w3, HW3⟩ := name_it w1
      rw [HW3.out] at b1 b2 b3 hch ⊢
      have b1c0 := b1.c0
      have b1c1 := b1.c1
      have b1c2 := b1.c2
      have b1f0 := b1.f0
      have b1f1 := b1.f1
      have b1f2 := b1.f2
      have b1l := b1.lt
      have b2c0 := b2.c0
      have b2c1 := b2.c1
      have b2c2 := b2.c2
      have b2f0 := b2.f0
      have b2f1 := b2.f1
      have b2f2 := b2.f2
      have b2l := b2.lt
      have b3c0 := b3.c0
      have b3c1 := b3.c1
      have b3c2 := b3.c2
      have b3f0 := b3.f0
      have b3f1 := b3.f1
      have b3f2 := b3.f2
      have b3l := b3.lt
      go_wp2_with fail
      clear b1c0 b1f0 b1c1 b1f1 b1c2 b1f2 b1l b2c0 b2f0 b2c1 b2f1 b2c2 b2f2 b2l b3c0 b3f0 b3c1 b3f1 b3c2 b3f2 b3l
      replace b1 := b1.keep ((Chg.refl [] _).drew) (by simp)
      replace b2 := b2.keep ((Chg.refl [] _).drew) (by simp)
      replace b3 := b3.keep ((Chg.refl [] _).drew) (by simp)
      replace hch := hch.drew
      go_region_held3 (fun w' => w'.cell? ⟨w.heap.size, 0, none⟩ = some (.bool x.neg) ∧ w'.cell? ⟨w.heap.size, 1, none⟩ = some (.string x.num) ∧ w'.cell? ⟨w.heap.size, 2, none⟩ = some (.string x.den) ∧ w'.cell? ⟨w.heap.size + 1, 0, none⟩ = some (.bool y.neg) ∧ w'.cell? ⟨w.heap.size + 1, 1, none⟩ = some (.string y.num) ∧ w'.cell? ⟨w.heap.size + 1, 2, none⟩ = some (.string y.den) ∧ w'.cell? ⟨w.heap.size + 1 + 1, 0, none⟩ = some (.bool z.neg) ∧ w'.cell? ⟨w.heap.size + 1 + 1, 1, none⟩ = some (.string z.num) ∧ w'.cell? ⟨w.heap.size + 1 + 1, 2, none⟩ = some (.string z.den)) (first | exact ⟨b1.c0, b1.c1, b1.c2, b2.c0, b2.c1, b2.c2, b3.c0, b3.c1, b3.c2⟩ | exact ⟨by simp [go_sem, b1.c0], by simp [go_sem, b1.c1], by simp [go_sem, b1.c2], by simp [go_sem, b2.c0], by simp [go_sem, b2.c1], by simp [go_sem, b2.c2], by simp [go_sem, b3.c0], by simp [go_sem, b3.c1], by simp [go_sem, b3.c2]⟩) (first
          | (go_at_call 34
             (with_reducible refine (MultiplyN x z p r 24 24 _ nx nz (by omega)).mono ?_)
             rintro e w1 ⟨u, rfl, hu, c1⟩
             replace b1 := b1.keep c1 (by simp)
             replace b2 := b2.keep c1 (by simp)
             replace b3 := b3.keep c1 (by simp)
             replace hch := hch.then c1
             clear c1)
          | (go_at_call 34
             (with_reducible refine (MultiplyN y z q r 24 24 _ ny nz (by omega)).mono ?_)
             rintro e w1 ⟨v, rfl, hv, c1⟩
             replace b1 := b1.keep c1 (by simp)
             replace b2 := b2.keep c1 (by simp)
             replace b3 := b3.keep c1 (by simp)
             replace hch := hch.then c1
             clear c1)
          | (go_at_call 22
             (with_reducible refine (CompareN u v (p * r) (q * r) 48 48 _ hu.num hv.num (by omega)).mono ?_)
             rintro e w1 ⟨rfl, c1⟩
             replace b1 := b1.keep c1 (by simp)
             replace b2 := b2.keep c1 (by simp)
             replace b3 := b3.keep c1 (by simp)
             replace hch := hch.then c1
             rw [qo_scale]
             clear c1))
      all_goals
        clear hu hv
        obtain ⟨t, HT⟩ := name_it (qo p q)
        obtain ⟨s, HU⟩ := name_it (sg r)
        rw [HT.out, HU.out]
        have ht : t = -1 ∨ t = 0 ∨ t = 1 := by rw [← HT.out]; exact sg_three _
        have hs : s = -1 ∨ s = 0 ∨ s = 1 := by rw [← HU.out]; exact sg_three _
        rcases ht with rfl | rfl | rfl <;> rcases hs with rfl | rfl | rfl
        all_goals
          have b1c0 := b1.c0
          have b1c1 := b1.c1
          have b1c2 := b1.c2
          have b1f0 := b1.f0
          have b1f1 := b1.f1
          have b1f2 := b1.f2
          have b1l := b1.lt
          have b2c0 := b2.c0
          have b2c1 := b2.c1
          have b2c2 := b2.c2
          have b2f0 := b2.f0
          have b2f1 := b2.f1
          have b2f2 := b2.f2
          have b2l := b2.lt
          have b3c0 := b3.c0
          have b3c1 := b3.c1
          have b3c2 := b3.c2
          have b3f0 := b3.f0
          have b3f1 := b3.f1
          have b3f2 := b3.f2
          have b3l := b3.lt
          go_wp2_with fail
          clear b1c0 b1f0 b1c1 b1f1 b1c2 b1f2 b1l b2c0 b2f0 b2c1 b2f1 b2c2 b2f2 b2l b3c0 b3f0 b3c1 b3f1 b3c2 b3f2 b3l
          refine (awake2_any _).mono ?_
          rintro e w4 ⟨rfl, c1⟩
          replace b1 := b1.keep c1 (by simp)
          replace b2 := b2.keep c1 (by simp)
          replace b3 := b3.keep c1 (by simp)
          replace hch := hch.then c1
          clear c1
          have b1c0 := b1.c0
          have b1c1 := b1.c1
          have b1c2 := b1.c2
          have b1f0 := b1.f0
          have b1f1 := b1.f1
          have b1f2 := b1.f2
          have b1l := b1.lt
          have b2c0 := b2.c0
          have b2c1 := b2.c1
          have b2c2 := b2.c2
          have b2f0 := b2.f0
          have b2f1 := b2.f1
          have b2f2 := b2.f2
          have b2l := b2.lt
          have b3c0 := b3.c0
          have b3c1 := b3.c1
          have b3c2 := b3.c2
          have b3f0 := b3.f0
          have b3f1 := b3.f1
          have b3f2 := b3.f2
          have b3l := b3.lt
          go_wp2_with fail
          clear b1c0 b1f0 b1c1 b1f1 b1c2 b1f2 b1l b2c0 b2f0 b2c1 b2f1 b2c2 b2f2 b2l b3c0 b3f0 b3c1 b3f1 b3c2 b3f2 b3l
          refine (SignN z r 24 _ nz (by omega)).mono ?_
          rintro e w5 ⟨rfl, c1⟩
          rw [HU.out]
          replace b1 := b1.keep c1 (by simp)
          replace b2 := b2.keep c1 (by simp)
          replace b3 := b3.keep c1 (by simp)
          replace hch := hch.then c1
          clear c1
          go_wp2_with fail
          go_ret
          exact ⟨ret_eq (by simp), hch⟩

end Go.Proofs.YtcliibhooeffdaaGreatDoor
