/-
  Laws: Arithmetic, Order.
-/
import Derived.Test.YtcliibhooeffdaaGreatDoorGS
import Derived.Test.YtcliibhooeffdaaGreatDoorGN
namespace Go.Proofs.YtcliibhooeffdaaGreatDoor
open Go.RowKit Nd
theorem Rats.two (w : World) (x y : Q3) (e : TypeId) : Rats (w.alloc (.cells #[.bool x.neg, .string x.num, .string x.den, .bool y.neg, .string y.num, .string y.den] e)) w.heap.size [x, y] := by
  refine ⟨by simp, fun j hj => ?_⟩
  have hj2 : j = 0 ∨ j = 1 := by simp at hj; omega
  rcases hj2 with rfl | rfl <;> simp

theorem Rats.three (w : World) (x y z : Q3) (e : TypeId) : Rats (w.alloc (.cells #[.bool x.neg, .string x.num, .string x.den, .bool y.neg, .string y.num, .string y.den, .bool z.neg, .string z.num, .string z.den] e)) w.heap.size [x, y, z] := by
  refine ⟨by simp, fun j hj => ?_⟩
  have hj2 : j = 0 ∨ j = 1 ∨ j = 2 := by simp at hj; omega
  rcases hj2 with rfl | rfl | rfl <;> simp

set_option maxRecDepth 20000 in
set_option maxHeartbeats 2000000 in
theorem larithmetic_any (x y : Q3) (w : World) :
    Calls Tryz.prog 5 #[.agg #[.bool x.neg, .string x.num, .string x.den], .agg #[.bool y.neg, .string y.num, .string y.den]] w fun e w' => e = .returned (.bool true) ∧ Chg [] w w' := by
  have hch : Chg [] w ((((w).alloc (.cells #[.bool x.neg, .string x.num, .string x.den] 23)).alloc (.cells #[.bool y.neg, .string y.num, .string y.den] 23)).alloc (.cells #[.bool x.neg, .string x.num, .string x.den, .bool y.neg, .string y.num, .string y.den] 23)) := ((((Chg.refl _ _).alloc _).alloc _).alloc _)
  have b1 := Blk3.alloc (w) (.bool x.neg) (.string x.num) (.string x.den) 23
  replace b1 := b1.keep ((Chg.refl [] _).alloc (.cells #[.bool y.neg, .string y.num, .string y.den] 23)) (by simp)
  replace b1 := b1.keep ((Chg.refl [] _).alloc (.cells #[.bool x.neg, .string x.num, .string x.den, .bool y.neg, .string y.num, .string y.den] 23)) (by simp)
  have b2 := Blk3.alloc ((w).alloc (.cells #[.bool x.neg, .string x.num, .string x.den] 23)) (.bool y.neg) (.string y.num) (.string y.den) 23
  replace b2 := b2.keep ((Chg.refl [] _).alloc (.cells #[.bool x.neg, .string x.num, .string x.den, .bool y.neg, .string y.num, .string y.den] 23)) (by simp)
  have hr := Rats.two (((w).alloc (.cells #[.bool x.neg, .string x.num, .string x.den] 23)).alloc (.cells #[.bool y.neg, .string y.num, .string y.den] 23)) x y 23
  simp only [World.size_alloc] at hr b1 b2
  cases hf : fewQ [x, y]
  · have HF := Lib.hid hf
    clear hf
    go_enter Tryz.func5, Tryz.ntmps5
    go_wp2_with fail
    refine (few2_any [x, y] (w.heap.size + 1 + 1) 2 _ hr (by simp)).mono ?_
    rintro e w1 ⟨rfl, c1⟩
    rw [HF.out]
    replace hch := hch.then c1
    clear c1
    go_wp2_with fail
    refine (awake2_any _).mono ?_
    rintro e w2 ⟨rfl, c1⟩
    replace hch := hch.then c1
    clear c1
    go_wp2_with fail
    go_ret
    exact ⟨rfl, hch⟩
  · have hss : x.num.size ≤ 24 ∧ x.den.size ≤ 24 ∧ y.num.size ≤ 24 ∧ y.den.size ≤ 24 := by simpa [fewQ, shortQ, and_assoc] using hf
    have HF := Lib.hid hf
    obtain ⟨sx1, sx2, sy1, sy2⟩ := hss
    obtain ⟨p, Hp⟩ := name_it (ratOf x)
    have nx : Num x p 24 := ⟨Hp.out, ⟨sx1, sx2⟩, by omega⟩
    obtain ⟨q, Hq⟩ := name_it (ratOf y)
    have ny : Num y q 24 := ⟨Hq.out, ⟨sy1, sy2⟩, by omega⟩
    clear hf sx1 sx2 sy1 sy2 Hp Hq
    go_enter Tryz.func5, Tryz.ntmps5
    go_wp2_with fail
    refine (few2_any [x, y] (w.heap.size + 1 + 1) 2 _ hr (by simp)).mono ?_
    rintro e w1 ⟨rfl, c1⟩
    rw [HF.out]
    replace b1 := b1.keep c1 (by simp)
    replace b2 := b2.keep c1 (by simp)
    replace hch := hch.then c1
    clear c1 hr HF
    have b1c0 := b1.c0
    have b1c1 := b1.c1
    have b1c2 := b1.c2
    have b1f0 := b1.f0
    have b1f1 := b1.f1
    have b1f2 := b1.f2
    have b1l := b1.lt
    have b2c0 := b2.c0
    have b2c1 := b2.c1
    have b2c2 := b2.c2
    have b2f0 := b2.f0
    have b2f1 := b2.f1
    have b2f2 := b2.f2
    have b2l := b2.lt
    go_wp2_with fail
    clear b1c0 b1f0 b1c1 b1f1 b1c2 b1f2 b1l b2c0 b2f0 b2c1 b2f1 b2c2 b2f2 b2l
    obtain ⟨w0, HW0⟩ := name_it w1
    rw [HW0.out] at b1 b2 hch ⊢
    replace b1 := b1.keep ((Chg.refl [] _).drew) (by simp)
    replace b2 := b2.keep ((Chg.refl [] _).drew) (by simp)
    replace hch := hch.drew
    go_region_held3 (fun w' => w'.cell? ⟨w.heap.size, 0, none⟩ = some (.bool x.neg) ∧ w'.cell? ⟨w.heap.size, 1, none⟩ = some (.string x.num) ∧ w'.cell? ⟨w.heap.size, 2, none⟩ = some (.string x.den) ∧ w'.cell? ⟨w.heap.size + 1, 0, none⟩ = some (.bool y.neg) ∧ w'.cell? ⟨w.heap.size + 1, 1, none⟩ = some (.string y.num) ∧ w'.cell? ⟨w.heap.size + 1, 2, none⟩ = some (.string y.den)) (first | exact ⟨b1.c0, b1.c1, b1.c2, b2.c0, b2.c1, b2.c2⟩ | exact ⟨by simp [go_sem, b1.c0], by simp [go_sem, b1.c1], by simp [go_sem, b1.c2], by simp [go_sem, b2.c0], by simp [go_sem, b2.c1], by simp [go_sem, b2.c2]⟩) (first
        | (go_at_call 16
           (with_reducible refine (awake2_any _).mono ?_)
           rintro e w1 ⟨rfl, c1⟩
           replace b1 := b1.keep c1 (by simp)
           replace b2 := b2.keep c1 (by simp)
           replace hch := hch.then c1
           clear c1)
        | (go_at_call 28
           (with_reducible refine (NegateN x p 24 _ nx (by omega)).mono ?_)
           rintro e w1 ⟨z1, rfl, h1, c1⟩
           replace b1 := b1.keep c1 (by simp)
           replace b2 := b2.keep c1 (by simp)
           replace hch := hch.then c1
           clear c1)
        | (go_at_call 29
           (with_reducible refine (rNegateN x p 24 _ nx (by omega)).mono ?_)
           rintro e w1 ⟨y1, rfl, k1, c1⟩
           replace b1 := b1.keep c1 (by simp)
           replace b2 := b2.keep c1 (by simp)
           replace hch := hch.then c1
           obtain rfl := h1.unique k1
           clear c1)
        | (go_at_call 30
           (with_reducible refine (AddN x y p q 24 24 _ nx ny (by omega)).mono ?_)
           rintro e w1 ⟨z2, rfl, h2, c1⟩
           replace b1 := b1.keep c1 (by simp)
           replace b2 := b2.keep c1 (by simp)
           replace hch := hch.then c1
           clear c1)
        | (go_at_call 31
           (with_reducible refine (rAddN x y p q 24 24 _ nx ny (by omega)).mono ?_)
           rintro e w1 ⟨y2, rfl, k2, c1⟩
           replace b1 := b1.keep c1 (by simp)
           replace b2 := b2.keep c1 (by simp)
           replace hch := hch.then c1
           obtain rfl := h2.unique k2
           clear c1)
        | (go_at_call 32
           (with_reducible refine (SubtractN x y p q 24 24 _ nx ny (by omega)).mono ?_)
           rintro e w1 ⟨z3, rfl, h3, c1⟩
           replace b1 := b1.keep c1 (by simp)
           replace b2 := b2.keep c1 (by simp)
           replace hch := hch.then c1
           clear c1)
        | (go_at_call 33
           (with_reducible refine (rSubtractN x y p q 24 24 _ nx ny (by omega)).mono ?_)
           rintro e w1 ⟨y3, rfl, k3, c1⟩
           replace b1 := b1.keep c1 (by simp)
           replace b2 := b2.keep c1 (by simp)
           replace hch := hch.then c1
           obtain rfl := h3.unique k3
           clear c1)
        | (go_at_call 34
           (with_reducible refine (MultiplyN x y p q 24 24 _ nx ny (by omega)).mono ?_)
           rintro e w1 ⟨z4, rfl, h4, c1⟩
           replace b1 := b1.keep c1 (by simp)
           replace b2 := b2.keep c1 (by simp)
           replace hch := hch.then c1
           clear c1)
        | (go_at_call 35
           (with_reducible refine (rMultiplyN x y p q 24 24 _ nx ny (by omega)).mono ?_)
           rintro e w1 ⟨y4, rfl, k4, c1⟩
           replace b1 := b1.keep c1 (by simp)
           replace b2 := b2.keep c1 (by simp)
           replace hch := hch.then c1
           obtain rfl := h4.unique k4
           clear c1))
    all_goals
      go_wp2_with fail
      go_ret
      exact ⟨ret_eq (by simp), hch⟩

set_option maxRecDepth 20000 in
set_option maxHeartbeats 2000000 in
theorem lorder_any (x y : Q3) (w : World) :
    Calls Tryz.prog 4 #[.agg #[.bool x.neg, .string x.num, .string x.den], .agg #[.bool y.neg, .string y.num, .string y.den]] w fun e w' => e = .returned (.bool true) ∧ Chg [] w w' := by
  have hch : Chg [] w ((((w).alloc (.cells #[.bool x.neg, .string x.num, .string x.den] 23)).alloc (.cells #[.bool y.neg, .string y.num, .string y.den] 23)).alloc (.cells #[.bool x.neg, .string x.num, .string x.den, .bool y.neg, .string y.num, .string y.den] 23)) := ((((Chg.refl _ _).alloc _).alloc _).alloc _)
  have b1 := Blk3.alloc (w) (.bool x.neg) (.string x.num) (.string x.den) 23
  replace b1 := b1.keep ((Chg.refl [] _).alloc (.cells #[.bool y.neg, .string y.num, .string y.den] 23)) (by simp)
  replace b1 := b1.keep ((Chg.refl [] _).alloc (.cells #[.bool x.neg, .string x.num, .string x.den, .bool y.neg, .string y.num, .string y.den] 23)) (by simp)
  have b2 := Blk3.alloc ((w).alloc (.cells #[.bool x.neg, .string x.num, .string x.den] 23)) (.bool y.neg) (.string y.num) (.string y.den) 23
  replace b2 := b2.keep ((Chg.refl [] _).alloc (.cells #[.bool x.neg, .string x.num, .string x.den, .bool y.neg, .string y.num, .string y.den] 23)) (by simp)
  have hr := Rats.two (((w).alloc (.cells #[.bool x.neg, .string x.num, .string x.den] 23)).alloc (.cells #[.bool y.neg, .string y.num, .string y.den] 23)) x y 23
  simp only [World.size_alloc] at hr b1 b2
  cases hf : fewQ [x, y]
  · have HF := Lib.hid hf
    clear hf
    go_enter Tryz.func4, Tryz.ntmps4
    go_wp2_with fail
    refine (few2_any [x, y] (w.heap.size + 1 + 1) 2 _ hr (by simp)).mono ?_
    rintro e w1 ⟨rfl, c1⟩
    rw [HF.out]
    replace hch := hch.then c1
    clear c1
    go_wp2_with fail
    refine (awake2_any _).mono ?_
    rintro e w2 ⟨rfl, c1⟩
    replace hch := hch.then c1
    clear c1
    go_wp2_with fail
    go_ret
    exact ⟨rfl, hch⟩
  · have hss : x.num.size ≤ 24 ∧ x.den.size ≤ 24 ∧ y.num.size ≤ 24 ∧ y.den.size ≤ 24 := by simpa [fewQ, shortQ, and_assoc] using hf
    have HF := Lib.hid hf
    obtain ⟨sx1, sx2, sy1, sy2⟩ := hss
    obtain ⟨p, Hp⟩ := name_it (ratOf x)
    have nx : Num x p 24 := ⟨Hp.out, ⟨sx1, sx2⟩, by omega⟩
    obtain ⟨q, Hq⟩ := name_it (ratOf y)
    have ny : Num y q 24 := ⟨Hq.out, ⟨sy1, sy2⟩, by omega⟩
    clear hf sx1 sx2 sy1 sy2 Hp Hq
    go_enter Tryz.func4, Tryz.ntmps4
    go_wp2_with fail
    refine (few2_any [x, y] (w.heap.size + 1 + 1) 2 _ hr (by simp)).mono ?_
    rintro e w1 ⟨rfl, c1⟩
    rw [HF.out]
    replace b1 := b1.keep c1 (by simp)
    replace b2 := b2.keep c1 (by simp)
    replace hch := hch.then c1
    clear c1 hr HF
    have b1c0 := b1.c0
    have b1c1 := b1.c1
    have b1c2 := b1.c2
    have b1f0 := b1.f0
    have b1f1 := b1.f1
    have b1f2 := b1.f2
    have b1l := b1.lt
    have b2c0 := b2.c0
    have b2c1 := b2.c1
    have b2c2 := b2.c2
    have b2f0 := b2.f0
    have b2f1 := b2.f1
    have b2f2 := b2.f2
    have b2l := b2.lt
    go_wp2_with fail
    clear b1c0 b1f0 b1c1 b1f1 b1c2 b1f2 b1l b2c0 b2f0 b2c1 b2f1 b2c2 b2f2 b2l
    obtain ⟨w0, HW0⟩ := name_it w1
    rw [HW0.out] at b1 b2 hch ⊢
    replace b1 := b1.keep ((Chg.refl [] _).drew) (by simp)
    replace b2 := b2.keep ((Chg.refl [] _).drew) (by simp)
    replace hch := hch.drew
    go_region_held3 (fun w' => w'.cell? ⟨w.heap.size, 0, none⟩ = some (.bool x.neg) ∧ w'.cell? ⟨w.heap.size, 1, none⟩ = some (.string x.num) ∧ w'.cell? ⟨w.heap.size, 2, none⟩ = some (.string x.den) ∧ w'.cell? ⟨w.heap.size + 1, 0, none⟩ = some (.bool y.neg) ∧ w'.cell? ⟨w.heap.size + 1, 1, none⟩ = some (.string y.num) ∧ w'.cell? ⟨w.heap.size + 1, 2, none⟩ = some (.string y.den)) (first | exact ⟨b1.c0, b1.c1, b1.c2, b2.c0, b2.c1, b2.c2⟩ | exact ⟨by simp [go_sem, b1.c0], by simp [go_sem, b1.c1], by simp [go_sem, b1.c2], by simp [go_sem, b2.c0], by simp [go_sem, b2.c1], by simp [go_sem, b2.c2]⟩) (first
        | (go_at_call 16
           (with_reducible refine (awake2_any _).mono ?_)
           rintro e w1 ⟨rfl, c1⟩
           replace b1 := b1.keep c1 (by simp)
           replace b2 := b2.keep c1 (by simp)
           replace hch := hch.then c1
           clear c1)
        | (go_at_call 20
           (with_reducible refine (SignN x p 24 _ nx (by omega)).mono ?_)
           rintro e w1 ⟨rfl, c1⟩
           replace b1 := b1.keep c1 (by simp)
           replace b2 := b2.keep c1 (by simp)
           replace hch := hch.then c1
           clear c1)
        | (go_at_call 21
           (with_reducible refine (rSignN x p 24 _ nx (by omega)).mono ?_)
           rintro e w1 ⟨rfl, c1⟩
           replace b1 := b1.keep c1 (by simp)
           replace b2 := b2.keep c1 (by simp)
           replace hch := hch.then c1
           clear c1)
        | (go_at_call 22
           (with_reducible refine (CompareN x y p q 24 24 _ nx ny (by omega)).mono ?_)
           rintro e w1 ⟨rfl, c1⟩
           replace b1 := b1.keep c1 (by simp)
           replace b2 := b2.keep c1 (by simp)
           replace hch := hch.then c1
           clear c1)
        | (go_at_call 23
           (with_reducible refine (rCompareN x y p q 24 24 _ nx ny (by omega)).mono ?_)
           rintro e w1 ⟨rfl, c1⟩
           replace b1 := b1.keep c1 (by simp)
           replace b2 := b2.keep c1 (by simp)
           replace hch := hch.then c1
           clear c1)
        | (go_at_call 24
           (with_reducible refine (MinN x y p q 24 24 _ nx ny (by omega)).mono ?_)
           rintro e w1 ⟨z2, rfl, h2, c1⟩
           replace b1 := b1.keep c1 (by simp)
           replace b2 := b2.keep c1 (by simp)
           replace hch := hch.then c1
           clear c1)
        | (go_at_call 25
           (with_reducible refine (rMinN x y p q 24 24 _ nx ny (by omega)).mono ?_)
           rintro e w1 ⟨y2, rfl, k2, c1⟩
           replace b1 := b1.keep c1 (by simp)
           replace b2 := b2.keep c1 (by simp)
           replace hch := hch.then c1
           obtain rfl := h2.unique k2
           clear c1)
        | (go_at_call 26
           (with_reducible refine (MaxN x y p q 24 24 _ nx ny (by omega)).mono ?_)
           rintro e w1 ⟨z3, rfl, h3, c1⟩
           replace b1 := b1.keep c1 (by simp)
           replace b2 := b2.keep c1 (by simp)
           replace hch := hch.then c1
           clear c1)
        | (go_at_call 27
           (with_reducible refine (rMaxN x y p q 24 24 _ nx ny (by omega)).mono ?_)
           rintro e w1 ⟨y3, rfl, k3, c1⟩
           replace b1 := b1.keep c1 (by simp)
           replace b2 := b2.keep c1 (by simp)
           replace hch := hch.then c1
           obtain rfl := h3.unique k3
           clear c1))
    all_goals
      go_wp2_with fail
      go_ret
      exact ⟨ret_eq (by simp), hch⟩

end Go.Proofs.YtcliibhooeffdaaGreatDoor
