/-
  Several parts put together: V8, V9.
-/
import Derived.Test.YtcliibhooeffdaaGreatDoorGR
import Derived.Test.YtcliibhooeffdaaGreatDoorGP
/- Part V8. -/

namespace Go.Proofs.YtcliibhooeffdaaGreatDoor
open Go.RowKit Nd
set_option maxRecDepth 20000 in
set_option maxHeartbeats 1000000 in
theorem rLesser_any (x y : Q3) (p q : Rat) (k l : Nat) (w : World) (hx : Val x p k) (hy : Val y q l) (hk : k + l ≤ 34359738367) :
    Calls Tryz.prog 61 #[.agg #[.bool x.neg, .string x.num, .string x.den], .agg #[.bool y.neg, .string y.num, .string y.den]] w fun e w' => ∃ z, e = .returned (.agg #[.bool z.neg, .string z.num, .string z.den]) ∧ Val z (qmin p q) (k + l) ∧ Chg [] w w' := by
  obtain ⟨b1, b2, b3, hch⟩ := box3 w x y 23
  go_enter Tryz.func61, Tryz.ntmps61
  go_wp2_with fail
  obtain ⟨w0, HWw0⟩ := name_it ((((w).alloc (.cells #[.bool x.neg, .string x.num, .string x.den] 23)).alloc (.cells #[.bool y.neg, .string y.num, .string y.den] 23)).alloc (.cells #[.bool false, .string ⟨#[]⟩, .string ⟨#[]⟩] 23))
  rw [HWw0.out] at b1 b2 b3 hch ⊢
  refine (rLess_any y x q p l k _ hy hx (by omega)).mono ?_
  rintro e w1 ⟨rfl, c1⟩
  replace b1 := b1.keep c1 (by simp)
  replace b2 := b2.keep c1 (by simp)
  replace b3 := b3.keep c1 (by simp)
  replace hch := hch.then c1
  clear c1
  by_cases hpq : q < p
  · have hr : Val y (qmin p q) (k + l) := by show Val _ _ _; unfold qmin; rw [if_pos hpq]; exact hy.mono (by omega)
    have HR := Lib.hid hr
    rw [decide_eq_true hpq]
    clear hr hpq hx hy
    have b1c0 := b1.c0
    have b1c1 := b1.c1
    have b1c2 := b1.c2
    have b1f0 := b1.f0
    have b1f1 := b1.f1
    have b1f2 := b1.f2
    have b1l := b1.lt
    have b2c0 := b2.c0
    have b2c1 := b2.c1
    have b2c2 := b2.c2
    have b2f0 := b2.f0
    have b2f1 := b2.f1
    have b2f2 := b2.f2
    have b2l := b2.lt
    have b3c0 := b3.c0
    have b3c1 := b3.c1
    have b3c2 := b3.c2
    have b3f0 := b3.f0
    have b3f1 := b3.f1
    have b3f2 := b3.f2
    have b3l := b3.lt
    go_wp2_with fail
    have S := b3.store (.bool y.neg) (.string y.num) (.string y.den)
    exact bodyPost_ret (v := .agg #[.bool y.neg, .string y.num, .string y.den]) (by simp [results, Tryz.results61, go_sem, S.c0, S.c1, S.c2]) rfl ⟨y, rfl, HR.out, hch.store3 (.inr (by omega)) _ _ _⟩
  · have hr : Val x (qmin p q) (k + l) := by show Val _ _ _; unfold qmin; rw [if_neg hpq]; exact hx.mono (by omega)
    have HR := Lib.hid hr
    rw [decide_eq_false hpq]
    clear hr hpq hx hy
    have b1c0 := b1.c0
    have b1c1 := b1.c1
    have b1c2 := b1.c2
    have b1f0 := b1.f0
    have b1f1 := b1.f1
    have b1f2 := b1.f2
    have b1l := b1.lt
    have b2c0 := b2.c0
    have b2c1 := b2.c1
    have b2c2 := b2.c2
    have b2f0 := b2.f0
    have b2f1 := b2.f1
    have b2f2 := b2.f2
    have b2l := b2.lt
    have b3c0 := b3.c0
    have b3c1 := b3.c1
    have b3c2 := b3.c2
    have b3f0 := b3.f0
    have b3f1 := b3.f1
    have b3f2 := b3.f2
    have b3l := b3.lt
    go_wp2_with fail
    have S := b3.store (.bool x.neg) (.string x.num) (.string x.den)
    exact bodyPost_ret (v := .agg #[.bool x.neg, .string x.num, .string x.den]) (by simp [results, Tryz.results61, go_sem, S.c0, S.c1, S.c2]) rfl ⟨x, rfl, HR.out, hch.store3 (.inr (by omega)) _ _ _⟩

set_option maxRecDepth 20000 in
set_option maxHeartbeats 1000000 in
theorem rGreater_any (x y : Q3) (p q : Rat) (k l : Nat) (w : World) (hx : Val x p k) (hy : Val y q l) (hk : k + l ≤ 34359738367) :
    Calls Tryz.prog 62 #[.agg #[.bool x.neg, .string x.num, .string x.den], .agg #[.bool y.neg, .string y.num, .string y.den]] w fun e w' => ∃ z, e = .returned (.agg #[.bool z.neg, .string z.num, .string z.den]) ∧ Val z (qmax p q) (k + l) ∧ Chg [] w w' := by
  obtain ⟨b1, b2, b3, hch⟩ := box3 w x y 23
  go_enter Tryz.func62, Tryz.ntmps62
  go_wp2_with fail
  obtain ⟨w0, HWw0⟩ := name_it ((((w).alloc (.cells #[.bool x.neg, .string x.num, .string x.den] 23)).alloc (.cells #[.bool y.neg, .string y.num, .string y.den] 23)).alloc (.cells #[.bool false, .string ⟨#[]⟩, .string ⟨#[]⟩] 23))
  rw [HWw0.out] at b1 b2 b3 hch ⊢
  refine (rLess_any x y p q k l _ hx hy (by omega)).mono ?_
  rintro e w1 ⟨rfl, c1⟩
  replace b1 := b1.keep c1 (by simp)
  replace b2 := b2.keep c1 (by simp)
  replace b3 := b3.keep c1 (by simp)
  replace hch := hch.then c1
  clear c1
  by_cases hpq : p < q
  · have hr : Val y (qmax p q) (k + l) := by show Val _ _ _; unfold qmax; rw [if_pos hpq]; exact hy.mono (by omega)
    have HR := Lib.hid hr
    rw [decide_eq_true hpq]
    clear hr hpq hx hy
    have b1c0 := b1.c0
    have b1c1 := b1.c1
    have b1c2 := b1.c2
    have b1f0 := b1.f0
    have b1f1 := b1.f1
    have b1f2 := b1.f2
    have b1l := b1.lt
    have b2c0 := b2.c0
    have b2c1 := b2.c1
    have b2c2 := b2.c2
    have b2f0 := b2.f0
    have b2f1 := b2.f1
    have b2f2 := b2.f2
    have b2l := b2.lt
    have b3c0 := b3.c0
    have b3c1 := b3.c1
    have b3c2 := b3.c2
    have b3f0 := b3.f0
    have b3f1 := b3.f1
    have b3f2 := b3.f2
    have b3l := b3.lt
    go_wp2_with fail
    have S := b3.store (.bool y.neg) (.string y.num) (.string y.den)
    exact bodyPost_ret (v := .agg #[.bool y.neg, .string y.num, .string y.den]) (by simp [results, Tryz.results62, go_sem, S.c0, S.c1, S.c2]) rfl ⟨y, rfl, HR.out, hch.store3 (.inr (by omega)) _ _ _⟩
  · have hr : Val x (qmax p q) (k + l) := by show Val _ _ _; unfold qmax; rw [if_neg hpq]; exact hx.mono (by omega)
    have HR := Lib.hid hr
    rw [decide_eq_false hpq]
    clear hr hpq hx hy
    have b1c0 := b1.c0
    have b1c1 := b1.c1
    have b1c2 := b1.c2
    have b1f0 := b1.f0
    have b1f1 := b1.f1
    have b1f2 := b1.f2
    have b1l := b1.lt
    have b2c0 := b2.c0
    have b2c1 := b2.c1
    have b2c2 := b2.c2
    have b2f0 := b2.f0
    have b2f1 := b2.f1
    have b2f2 := b2.f2
    have b2l := b2.lt
    have b3c0 := b3.c0
    have b3c1 := b3.c1
    have b3c2 := b3.c2
    have b3f0 := b3.f0
    have b3f1 := b3.f1
    have b3f2 := b3.f2
    have b3l := b3.lt
    go_wp2_with fail
    have S := b3.store (.bool x.neg) (.string x.num) (.string x.den)
    exact bodyPost_ret (v := .agg #[.bool x.neg, .string x.num, .string x.den]) (by simp [results, Tryz.results62, go_sem, S.c0, S.c1, S.c2]) rfl ⟨x, rfl, HR.out, hch.store3 (.inr (by omega)) _ _ _⟩

set_option maxRecDepth 20000 in
set_option maxHeartbeats 1000000 in
theorem rSignN (x : Q3) (p : Rat) (k : Nat) (w : World) (hx : Num x p k) (hk : k ≤ 34359738367) :
    Calls Tryz.prog 21 #[.agg #[.bool x.neg, .string x.num, .string x.den]] w fun e w' => e = .returned (.int .i64 (sg p)) ∧ Chg [] w w' := by
  have b1 := Blk3.alloc w (.bool x.neg) (.string x.num) (.string x.den) 23
  have hch : Chg [] w (w.alloc (.cells #[.bool x.neg, .string x.num, .string x.den] 23)) := (Chg.refl _ _).alloc _
  go_enter Tryz.func21, Tryz.ntmps21
  go_wp2_with fail
  obtain ⟨w0, HWw0⟩ := name_it ((w).alloc (.cells #[.bool x.neg, .string x.num, .string x.den] 23))
  rw [HWw0.out] at b1 hch ⊢
  refine (rFixN x p k _ hx (by omega)).mono ?_
  rintro e w1 ⟨y, rfl, hy, c1⟩
  replace b1 := b1.keep c1 (by simp)
  replace hch := hch.then c1
  clear c1
  have b1c0 := b1.c0
  have b1c1 := b1.c1
  have b1c2 := b1.c2
  have b1f0 := b1.f0
  have b1f1 := b1.f1
  have b1f2 := b1.f2
  have b1l := b1.lt
  go_wp2_with fail
  refine (rSignum_any y p k _ hy).mono ?_
  rintro e w1 ⟨rfl, c1⟩
  clear b1c0 b1f0 b1c1 b1f1 b1c2 b1f2 b1l
  replace b1 := b1.keep c1 (by simp)
  replace hch := hch.then c1
  clear c1
  have b1c0 := b1.c0
  have b1c1 := b1.c1
  have b1c2 := b1.c2
  have b1f0 := b1.f0
  have b1f1 := b1.f1
  have b1f2 := b1.f2
  have b1l := b1.lt
  go_wp2_with fail
  go_ret
  exact ⟨rfl, hch⟩

set_option maxRecDepth 20000 in
set_option maxHeartbeats 1000000 in
theorem rNegateN (x : Q3) (p : Rat) (k : Nat) (w : World) (hx : Num x p k) (hk : k ≤ 34359738367) :
    Calls Tryz.prog 29 #[.agg #[.bool x.neg, .string x.num, .string x.den]] w fun e w' => ∃ z, e = .returned (.agg #[.bool z.neg, .string z.num, .string z.den]) ∧ Val z (-p) k ∧ Chg [] w w' := by
  obtain ⟨b1, b2, hch⟩ := box1 w x 23
  go_enter Tryz.func29, Tryz.ntmps29
  go_wp2_with fail
  obtain ⟨w0, HWw0⟩ := name_it (((w).alloc (.cells #[.bool x.neg, .string x.num, .string x.den] 23)).alloc (.cells #[.bool false, .string ⟨#[]⟩, .string ⟨#[]⟩] 23))
  rw [HWw0.out] at b1 b2 hch ⊢
  refine (rFixN x p k _ hx (by omega)).mono ?_
  rintro e w1 ⟨y, rfl, hy, c1⟩
  replace b1 := b1.keep c1 (by simp)
  replace b2 := b2.keep c1 (by simp)
  replace hch := hch.then c1
  clear c1
  have b1c0 := b1.c0
  have b1c1 := b1.c1
  have b1c2 := b1.c2
  have b1f0 := b1.f0
  have b1f1 := b1.f1
  have b1f2 := b1.f2
  have b1l := b1.lt
  have b2c0 := b2.c0
  have b2c1 := b2.c1
  have b2c2 := b2.c2
  have b2f0 := b2.f0
  have b2f1 := b2.f1
  have b2f2 := b2.f2
  have b2l := b2.lt
  go_wp2_with fail
  refine (rOpposite_any y p k _ hy).mono ?_
  rintro e w1 ⟨z, rfl, hz, c1⟩
  clear b1c0 b1f0 b1c1 b1f1 b1c2 b1f2 b1l b2c0 b2f0 b2c1 b2f1 b2c2 b2f2 b2l
  replace b1 := b1.keep c1 (by simp)
  replace b2 := b2.keep c1 (by simp)
  replace hch := hch.then c1
  clear c1
  have b1c0 := b1.c0
  have b1c1 := b1.c1
  have b1c2 := b1.c2
  have b1f0 := b1.f0
  have b1f1 := b1.f1
  have b1f2 := b1.f2
  have b1l := b1.lt
  have b2c0 := b2.c0
  have b2c1 := b2.c1
  have b2c2 := b2.c2
  have b2f0 := b2.f0
  have b2f1 := b2.f1
  have b2f2 := b2.f2
  have b2l := b2.lt
  go_wp2_with fail
  have S := b2.store (.bool z.neg) (.string z.num) (.string z.den)
  exact bodyPost_ret (v := .agg #[.bool z.neg, .string z.num, .string z.den]) (by simp [results, Tryz.results29, go_sem, S.c0, S.c1, S.c2]) rfl ⟨z, rfl, hz, hch.store3 (.inr (by omega)) _ _ _⟩

set_option maxRecDepth 20000 in
set_option maxHeartbeats 1000000 in
theorem rCompareN (x y : Q3) (p q : Rat) (k l : Nat) (w : World) (hx : Num x p k) (hy : Num y q l) (hk : k + l ≤ 34359738367) :
    Calls Tryz.prog 23 #[.agg #[.bool x.neg, .string x.num, .string x.den], .agg #[.bool y.neg, .string y.num, .string y.den]] w fun e w' => e = .returned (.int .i64 (qo p q)) ∧ Chg [] w w' := by
  obtain ⟨b1, b2, hch⟩ := box2 w x y 23
  go_enter Tryz.func23, Tryz.ntmps23
  go_wp2_with fail
  obtain ⟨w0, HWw0⟩ := name_it (((w).alloc (.cells #[.bool x.neg, .string x.num, .string x.den] 23)).alloc (.cells #[.bool y.neg, .string y.num, .string y.den] 23))
  rw [HWw0.out] at b1 b2 hch ⊢
  replace b1 := b1.keep ((Chg.refl [] _).drew) (by simp)
  replace b2 := b2.keep ((Chg.refl [] _).drew) (by simp)
  replace hch := hch.drew
  go_region_held3 (fun w' => w'.cell? ⟨w.heap.size, 0, none⟩ = some (.bool x.neg) ∧ w'.cell? ⟨w.heap.size, 1, none⟩ = some (.string x.num) ∧ w'.cell? ⟨w.heap.size, 2, none⟩ = some (.string x.den) ∧ w'.cell? ⟨w.heap.size + 1, 0, none⟩ = some (.bool y.neg) ∧ w'.cell? ⟨w.heap.size + 1, 1, none⟩ = some (.string y.num) ∧ w'.cell? ⟨w.heap.size + 1, 2, none⟩ = some (.string y.den)) (first | exact ⟨b1.c0, b1.c1, b1.c2, b2.c0, b2.c1, b2.c2⟩ | exact ⟨by simp [go_sem, b1.c0], by simp [go_sem, b1.c1], by simp [go_sem, b1.c2], by simp [go_sem, b2.c0], by simp [go_sem, b2.c1], by simp [go_sem, b2.c2]⟩) (first
      | (go_at_call 49
         (with_reducible refine (rFixN x p k _ hx (by omega)).mono ?_)
         rintro e w1 ⟨u, rfl, hu, c1⟩
         replace b1 := b1.keep c1 (by simp)
         replace b2 := b2.keep c1 (by simp)
         replace hch := hch.then c1
         clear c1)
      | (go_at_call 49
         (with_reducible refine (rFixN y q l _ hy (by omega)).mono ?_)
         rintro e w1 ⟨v, rfl, hv, c1⟩
         replace b1 := b1.keep c1 (by simp)
         replace b2 := b2.keep c1 (by simp)
         replace hch := hch.then c1
         clear c1)
      | (go_at_call 60
         (with_reducible refine (rMinus_any u v p q k l _ hu hv hk).mono ?_)
         rintro e w1 ⟨z, rfl, hz, c1⟩
         replace b1 := b1.keep c1 (by simp)
         replace b2 := b2.keep c1 (by simp)
         replace hch := hch.then c1
         clear c1)
      | (go_at_call 58
         (with_reducible refine (rSignum_any z (p - q) _ _ hz).mono ?_)
         rintro e w1 ⟨rfl, c1⟩
         replace b1 := b1.keep c1 (by simp)
         replace b2 := b2.keep c1 (by simp)
         replace hch := hch.then c1
         clear c1))
  all_goals
    go_wp2_with fail
    go_ret
    exact ⟨rfl, hch⟩

set_option maxRecDepth 20000 in
set_option maxHeartbeats 1000000 in
theorem rAddN (x y : Q3) (p q : Rat) (k l : Nat) (w : World) (hx : Num x p k) (hy : Num y q l) (hk : k + l ≤ 34359738367) :
    Calls Tryz.prog 31 #[.agg #[.bool x.neg, .string x.num, .string x.den], .agg #[.bool y.neg, .string y.num, .string y.den]] w fun e w' => ∃ z, e = .returned (.agg #[.bool z.neg, .string z.num, .string z.den]) ∧ Val z (p + q) (k + l + 1) ∧ Chg [] w w' := by
  obtain ⟨b1, b2, b3, hch⟩ := box3 w x y 23
  go_enter Tryz.func31, Tryz.ntmps31
  go_wp2_with fail
  obtain ⟨w0, HWw0⟩ := name_it ((((w).alloc (.cells #[.bool x.neg, .string x.num, .string x.den] 23)).alloc (.cells #[.bool y.neg, .string y.num, .string y.den] 23)).alloc (.cells #[.bool false, .string ⟨#[]⟩, .string ⟨#[]⟩] 23))
  rw [HWw0.out] at b1 b2 b3 hch ⊢
  replace b1 := b1.keep ((Chg.refl [] _).drew) (by simp)
  replace b2 := b2.keep ((Chg.refl [] _).drew) (by simp)
  replace b3 := b3.keep ((Chg.refl [] _).drew) (by simp)
  replace hch := hch.drew
  go_region_held3 (fun w' => w'.cell? ⟨w.heap.size, 0, none⟩ = some (.bool x.neg) ∧ w'.cell? ⟨w.heap.size, 1, none⟩ = some (.string x.num) ∧ w'.cell? ⟨w.heap.size, 2, none⟩ = some (.string x.den) ∧ w'.cell? ⟨w.heap.size + 1, 0, none⟩ = some (.bool y.neg) ∧ w'.cell? ⟨w.heap.size + 1, 1, none⟩ = some (.string y.num) ∧ w'.cell? ⟨w.heap.size + 1, 2, none⟩ = some (.string y.den)) (first | exact ⟨b1.c0, b1.c1, b1.c2, b2.c0, b2.c1, b2.c2⟩ | exact ⟨by simp [go_sem, b1.c0], by simp [go_sem, b1.c1], by simp [go_sem, b1.c2], by simp [go_sem, b2.c0], by simp [go_sem, b2.c1], by simp [go_sem, b2.c2]⟩) (first
      | (go_at_call 49
         (with_reducible refine (rFixN x p k _ hx (by omega)).mono ?_)
         rintro e w1 ⟨u, rfl, hu, c1⟩
         replace b1 := b1.keep c1 (by simp)
         replace b2 := b2.keep c1 (by simp)
         replace b3 := b3.keep c1 (by simp)
         replace hch := hch.then c1
         clear c1)
      | (go_at_call 49
         (with_reducible refine (rFixN y q l _ hy (by omega)).mono ?_)
         rintro e w1 ⟨v, rfl, hv, c1⟩
         replace b1 := b1.keep c1 (by simp)
         replace b2 := b2.keep c1 (by simp)
         replace b3 := b3.keep c1 (by simp)
         replace hch := hch.then c1
         clear c1)
      | (go_at_call 66
         (with_reducible refine (rPlus_any u v p q k l _ hu hv hk).mono ?_)
         rintro e w1 ⟨z, rfl, hz, c1⟩
         replace b1 := b1.keep c1 (by simp)
         replace b2 := b2.keep c1 (by simp)
         replace b3 := b3.keep c1 (by simp)
         replace hch := hch.then c1
         have b3c0 := b3.c0
         have b3c1 := b3.c1
         have b3c2 := b3.c2
         have b3f0 := b3.f0
         have b3f1 := b3.f1
         have b3f2 := b3.f2
         clear c1))
  all_goals
    go_wp2_with fail
    have S := b3.store (.bool z.neg) (.string z.num) (.string z.den)
    exact bodyPost_ret (v := .agg #[.bool z.neg, .string z.num, .string z.den]) (by simp [results, Tryz.results31, go_sem, S.c0, S.c1, S.c2]) rfl ⟨z, rfl, hz, hch.store3 (.inr (by omega)) _ _ _⟩

set_option maxRecDepth 20000 in
set_option maxHeartbeats 1000000 in
theorem rSubtractN (x y : Q3) (p q : Rat) (k l : Nat) (w : World) (hx : Num x p k) (hy : Num y q l) (hk : k + l ≤ 34359738367) :
    Calls Tryz.prog 33 #[.agg #[.bool x.neg, .string x.num, .string x.den], .agg #[.bool y.neg, .string y.num, .string y.den]] w fun e w' => ∃ z, e = .returned (.agg #[.bool z.neg, .string z.num, .string z.den]) ∧ Val z (p - q) (k + l + 1) ∧ Chg [] w w' := by
  obtain ⟨b1, b2, b3, hch⟩ := box3 w x y 23
  go_enter Tryz.func33, Tryz.ntmps33
  go_wp2_with fail
  obtain ⟨w0, HWw0⟩ := name_it ((((w).alloc (.cells #[.bool x.neg, .string x.num, .string x.den] 23)).alloc (.cells #[.bool y.neg, .string y.num, .string y.den] 23)).alloc (.cells #[.bool false, .string ⟨#[]⟩, .string ⟨#[]⟩] 23))
  rw [HWw0.out] at b1 b2 b3 hch ⊢
  replace b1 := b1.keep ((Chg.refl [] _).drew) (by simp)
  replace b2 := b2.keep ((Chg.refl [] _).drew) (by simp)
  replace b3 := b3.keep ((Chg.refl [] _).drew) (by simp)
  replace hch := hch.drew
  go_region_held3 (fun w' => w'.cell? ⟨w.heap.size, 0, none⟩ = some (.bool x.neg) ∧ w'.cell? ⟨w.heap.size, 1, none⟩ = some (.string x.num) ∧ w'.cell? ⟨w.heap.size, 2, none⟩ = some (.string x.den) ∧ w'.cell? ⟨w.heap.size + 1, 0, none⟩ = some (.bool y.neg) ∧ w'.cell? ⟨w.heap.size + 1, 1, none⟩ = some (.string y.num) ∧ w'.cell? ⟨w.heap.size + 1, 2, none⟩ = some (.string y.den)) (first | exact ⟨b1.c0, b1.c1, b1.c2, b2.c0, b2.c1, b2.c2⟩ | exact ⟨by simp [go_sem, b1.c0], by simp [go_sem, b1.c1], by simp [go_sem, b1.c2], by simp [go_sem, b2.c0], by simp [go_sem, b2.c1], by simp [go_sem, b2.c2]⟩) (first
      | (go_at_call 49
         (with_reducible refine (rFixN x p k _ hx (by omega)).mono ?_)
         rintro e w1 ⟨u, rfl, hu, c1⟩
         replace b1 := b1.keep c1 (by simp)
         replace b2 := b2.keep c1 (by simp)
         replace b3 := b3.keep c1 (by simp)
         replace hch := hch.then c1
         clear c1)
      | (go_at_call 49
         (with_reducible refine (rFixN y q l _ hy (by omega)).mono ?_)
         rintro e w1 ⟨v, rfl, hv, c1⟩
         replace b1 := b1.keep c1 (by simp)
         replace b2 := b2.keep c1 (by simp)
         replace b3 := b3.keep c1 (by simp)
         replace hch := hch.then c1
         clear c1)
      | (go_at_call 60
         (with_reducible refine (rMinus_any u v p q k l _ hu hv hk).mono ?_)
         rintro e w1 ⟨z, rfl, hz, c1⟩
         replace b1 := b1.keep c1 (by simp)
         replace b2 := b2.keep c1 (by simp)
         replace b3 := b3.keep c1 (by simp)
         replace hch := hch.then c1
         have b3c0 := b3.c0
         have b3c1 := b3.c1
         have b3c2 := b3.c2
         have b3f0 := b3.f0
         have b3f1 := b3.f1
         have b3f2 := b3.f2
         clear c1))
  all_goals
    go_wp2_with fail
    have S := b3.store (.bool z.neg) (.string z.num) (.string z.den)
    exact bodyPost_ret (v := .agg #[.bool z.neg, .string z.num, .string z.den]) (by simp [results, Tryz.results33, go_sem, S.c0, S.c1, S.c2]) rfl ⟨z, rfl, hz, hch.store3 (.inr (by omega)) _ _ _⟩

set_option maxRecDepth 20000 in
set_option maxHeartbeats 1000000 in
theorem rMultiplyN (x y : Q3) (p q : Rat) (k l : Nat) (w : World) (hx : Num x p k) (hy : Num y q l) (hk : k + l ≤ 34359738367) :
    Calls Tryz.prog 35 #[.agg #[.bool x.neg, .string x.num, .string x.den], .agg #[.bool y.neg, .string y.num, .string y.den]] w fun e w' => ∃ z, e = .returned (.agg #[.bool z.neg, .string z.num, .string z.den]) ∧ Val z (p * q) (k + l) ∧ Chg [] w w' := by
  obtain ⟨b1, b2, b3, hch⟩ := box3 w x y 23
  go_enter Tryz.func35, Tryz.ntmps35
  go_wp2_with fail
  obtain ⟨w0, HWw0⟩ := name_it ((((w).alloc (.cells #[.bool x.neg, .string x.num, .string x.den] 23)).alloc (.cells #[.bool y.neg, .string y.num, .string y.den] 23)).alloc (.cells #[.bool false, .string ⟨#[]⟩, .string ⟨#[]⟩] 23))
  rw [HWw0.out] at b1 b2 b3 hch ⊢
  replace b1 := b1.keep ((Chg.refl [] _).drew) (by simp)
  replace b2 := b2.keep ((Chg.refl [] _).drew) (by simp)
  replace b3 := b3.keep ((Chg.refl [] _).drew) (by simp)
  replace hch := hch.drew
  go_region_held3 (fun w' => w'.cell? ⟨w.heap.size, 0, none⟩ = some (.bool x.neg) ∧ w'.cell? ⟨w.heap.size, 1, none⟩ = some (.string x.num) ∧ w'.cell? ⟨w.heap.size, 2, none⟩ = some (.string x.den) ∧ w'.cell? ⟨w.heap.size + 1, 0, none⟩ = some (.bool y.neg) ∧ w'.cell? ⟨w.heap.size + 1, 1, none⟩ = some (.string y.num) ∧ w'.cell? ⟨w.heap.size + 1, 2, none⟩ = some (.string y.den)) (first | exact ⟨b1.c0, b1.c1, b1.c2, b2.c0, b2.c1, b2.c2⟩ | exact ⟨by simp [go_sem, b1.c0], by simp [go_sem, b1.c1], by simp [go_sem, b1.c2], by simp [go_sem, b2.c0], by simp [go_sem, b2.c1], by simp [go_sem, b2.c2]⟩) (first
      | (go_at_call 49
         (with_reducible refine (rFixN x p k _ hx (by omega)).mono ?_)
         rintro e w1 ⟨u, rfl, hu, c1⟩
         replace b1 := b1.keep c1 (by simp)
         replace b2 := b2.keep c1 (by simp)
         replace b3 := b3.keep c1 (by simp)
         replace hch := hch.then c1
         clear c1)
      | (go_at_call 49
         (with_reducible refine (rFixN y q l _ hy (by omega)).mono ?_)
         rintro e w1 ⟨v, rfl, hv, c1⟩
         replace b1 := b1.keep c1 (by simp)
         replace b2 := b2.keep c1 (by simp)
         replace b3 := b3.keep c1 (by simp)
         replace hch := hch.then c1
         clear c1)
      | (go_at_call 68
         (with_reducible refine (rTimes_any u v p q k l _ hu hv hk).mono ?_)
         rintro e w1 ⟨z, rfl, hz, c1⟩
         replace b1 := b1.keep c1 (by simp)
         replace b2 := b2.keep c1 (by simp)
         replace b3 := b3.keep c1 (by simp)
         replace hch := hch.then c1
         have b3c0 := b3.c0
         have b3c1 := b3.c1
         have b3c2 := b3.c2
         have b3f0 := b3.f0
         have b3f1 := b3.f1
         have b3f2 := b3.f2
         clear c1))
  all_goals
    go_wp2_with fail
    have S := b3.store (.bool z.neg) (.string z.num) (.string z.den)
    exact bodyPost_ret (v := .agg #[.bool z.neg, .string z.num, .string z.den]) (by simp [results, Tryz.results35, go_sem, S.c0, S.c1, S.c2]) rfl ⟨z, rfl, hz, hch.store3 (.inr (by omega)) _ _ _⟩

set_option maxRecDepth 20000 in
set_option maxHeartbeats 1000000 in
theorem rMinN (x y : Q3) (p q : Rat) (k l : Nat) (w : World) (hx : Num x p k) (hy : Num y q l) (hk : k + l ≤ 34359738367) :
    Calls Tryz.prog 25 #[.agg #[.bool x.neg, .string x.num, .string x.den], .agg #[.bool y.neg, .string y.num, .string y.den]] w fun e w' => ∃ z, e = .returned (.agg #[.bool z.neg, .string z.num, .string z.den]) ∧ Val z (qmin p q) (k + l) ∧ Chg [] w w' := by
  obtain ⟨b1, b2, b3, hch⟩ := box3 w x y 23
  go_enter Tryz.func25, Tryz.ntmps25
  go_wp2_with fail
  obtain ⟨w0, HWw0⟩ := name_it ((((w).alloc (.cells #[.bool x.neg, .string x.num, .string x.den] 23)).alloc (.cells #[.bool y.neg, .string y.num, .string y.den] 23)).alloc (.cells #[.bool false, .string ⟨#[]⟩, .string ⟨#[]⟩] 23))
  rw [HWw0.out] at b1 b2 b3 hch ⊢
  replace b1 := b1.keep ((Chg.refl [] _).drew) (by simp)
  replace b2 := b2.keep ((Chg.refl [] _).drew) (by simp)
  replace b3 := b3.keep ((Chg.refl [] _).drew) (by simp)
  replace hch := hch.drew
  go_region_held3 (fun w' => w'.cell? ⟨w.heap.size, 0, none⟩ = some (.bool x.neg) ∧ w'.cell? ⟨w.heap.size, 1, none⟩ = some (.string x.num) ∧ w'.cell? ⟨w.heap.size, 2, none⟩ = some (.string x.den) ∧ w'.cell? ⟨w.heap.size + 1, 0, none⟩ = some (.bool y.neg) ∧ w'.cell? ⟨w.heap.size + 1, 1, none⟩ = some (.string y.num) ∧ w'.cell? ⟨w.heap.size + 1, 2, none⟩ = some (.string y.den)) (first | exact ⟨b1.c0, b1.c1, b1.c2, b2.c0, b2.c1, b2.c2⟩ | exact ⟨by simp [go_sem, b1.c0], by simp [go_sem, b1.c1], by simp [go_sem, b1.c2], by simp [go_sem, b2.c0], by simp [go_sem, b2.c1], by simp [go_sem, b2.c2]⟩) (first
      | (go_at_call 49
         (with_reducible refine (rFixN x p k _ hx (by omega)).mono ?_)
         rintro e w1 ⟨u, rfl, hu, c1⟩
         replace b1 := b1.keep c1 (by simp)
         replace b2 := b2.keep c1 (by simp)
         replace b3 := b3.keep c1 (by simp)
         replace hch := hch.then c1
         clear c1)
      | (go_at_call 49
         (with_reducible refine (rFixN y q l _ hy (by omega)).mono ?_)
         rintro e w1 ⟨v, rfl, hv, c1⟩
         replace b1 := b1.keep c1 (by simp)
         replace b2 := b2.keep c1 (by simp)
         replace b3 := b3.keep c1 (by simp)
         replace hch := hch.then c1
         clear c1)
      | (go_at_call 61
         (with_reducible refine (rLesser_any u v p q k l _ hu hv hk).mono ?_)
         rintro e w1 ⟨z, rfl, hz, c1⟩
         replace b1 := b1.keep c1 (by simp)
         replace b2 := b2.keep c1 (by simp)
         replace b3 := b3.keep c1 (by simp)
         replace hch := hch.then c1
         have b3c0 := b3.c0
         have b3c1 := b3.c1
         have b3c2 := b3.c2
         have b3f0 := b3.f0
         have b3f1 := b3.f1
         have b3f2 := b3.f2
         clear c1))
  all_goals
    go_wp2_with fail
    have S := b3.store (.bool z.neg) (.string z.num) (.string z.den)
    exact bodyPost_ret (v := .agg #[.bool z.neg, .string z.num, .string z.den]) (by simp [results, Tryz.results25, go_sem, S.c0, S.c1, S.c2]) rfl ⟨z, rfl, hz, hch.store3 (.inr (by omega)) _ _ _⟩

set_option maxRecDepth 20000 in
set_option maxHeartbeats 1000000 in
theorem rMaxN (x y : Q3) (p q : Rat) (k l : Nat) (w : World) (hx : Num x p k) (hy : Num y q l) (hk : k + l ≤ 34359738367) :
    Calls Tryz.prog 27 #[.agg #[.bool x.neg, .string x.num, .string x.den], .agg #[.bool y.neg, .string y.num, .string y.den]] w fun e w' => ∃ z, e = .returned (.agg #[.bool z.neg, .string z.num, .string z.den]) ∧ Val z (qmax p q) (k + l) ∧ Chg [] w w' := by
  obtain ⟨b1, b2, b3, hch⟩ := box3 w x y 23
  go_enter Tryz.func27, Tryz.ntmps27
  go_wp2_with fail
  obtain ⟨w0, HWw0⟩ := name_it ((((w).alloc (.cells #[.bool x.neg, .string x.num, .string x.den] 23)).alloc (.cells #[.bool y.neg, .string y.num, .string y.den] 23)).alloc (.cells #[.bool false, .string ⟨#[]⟩, .string ⟨#[]⟩] 23))
  rw [HWw0.out] at b1 b2 b3 hch ⊢
  replace b1 := b1.keep ((Chg.refl [] _).drew) (by simp)
  replace b2 := b2.keep ((Chg.refl [] _).drew) (by simp)
  replace b3 := b3.keep ((Chg.refl [] _).drew) (by simp)
  replace hch := hch.drew
  go_region_held3 (fun w' => w'.cell? ⟨w.heap.size, 0, none⟩ = some (.bool x.neg) ∧ w'.cell? ⟨w.heap.size, 1, none⟩ = some (.string x.num) ∧ w'.cell? ⟨w.heap.size, 2, none⟩ = some (.string x.den) ∧ w'.cell? ⟨w.heap.size + 1, 0, none⟩ = some (.bool y.neg) ∧ w'.cell? ⟨w.heap.size + 1, 1, none⟩ = some (.string y.num) ∧ w'.cell? ⟨w.heap.size + 1, 2, none⟩ = some (.string y.den)) (first | exact ⟨b1.c0, b1.c1, b1.c2, b2.c0, b2.c1, b2.c2⟩ | exact ⟨by simp [go_sem, b1.c0], by simp [go_sem, b1.c1], by simp [go_sem, b1.c2], by simp [go_sem, b2.c0], by simp [go_sem, b2.c1], by simp [go_sem, b2.c2]⟩) (first
      | (go_at_call 49
         (with_reducible refine (rFixN x p k _ hx (by omega)).mono ?_)
         rintro e w1 ⟨u, rfl, hu, c1⟩
         replace b1 := b1.keep c1 (by simp)
         replace b2 := b2.keep c1 (by simp)
         replace b3 := b3.keep c1 (by simp)
         replace hch := hch.then c1
         clear c1)
      | (go_at_call 49
         (with_reducible refine (rFixN y q l _ hy (by omega)).mono ?_)
         rintro e w1 ⟨v, rfl, hv, c1⟩
         replace b1 := b1.keep c1 (by simp)
         replace b2 := b2.keep c1 (by simp)
         replace b3 := b3.keep c1 (by simp)
         replace hch := hch.then c1
         clear c1)
      | (go_at_call 62
         (with_reducible refine (rGreater_any u v p q k l _ hu hv hk).mono ?_)
         rintro e w1 ⟨z, rfl, hz, c1⟩
         replace b1 := b1.keep c1 (by simp)
         replace b2 := b2.keep c1 (by simp)
         replace b3 := b3.keep c1 (by simp)
         replace hch := hch.then c1
         have b3c0 := b3.c0
         have b3c1 := b3.c1
         have b3c2 := b3.c2
         have b3f0 := b3.f0
         have b3f1 := b3.f1
         have b3f2 := b3.f2
         clear c1))
  all_goals
    go_wp2_with fail
    have S := b3.store (.bool z.neg) (.string z.num) (.string z.den)
    exact bodyPost_ret (v := .agg #[.bool z.neg, .string z.num, .string z.den]) (by simp [results, Tryz.results27, go_sem, S.c0, S.c1, S.c2]) rfl ⟨z, rfl, hz, hch.store3 (.inr (by omega)) _ _ _⟩

end Go.Proofs.YtcliibhooeffdaaGreatDoor

/- Part V9. -/

namespace Go.Proofs.YtcliibhooeffdaaGreatDoor
open Go.RowKit Nd
set_option maxRecDepth 20000 in
set_option maxHeartbeats 1000000 in
theorem rDivide_zeroN (x y : Q3) (p : Rat) (k l : Nat) (w : World) (_hx : Num x p k) (hy : Num y 0 l) (hk : k + l ≤ 34359738367) :
    Calls Tryz.prog 37 #[.agg #[.bool x.neg, .string x.num, .string x.den], .agg #[.bool y.neg, .string y.num, .string y.den]] w fun e w' => e = .returned (.tuple #[.agg #[.bool false, .string ⟨#[]⟩, .string ⟨#[]⟩], .bool false]) ∧ Chg [] w w' := by
  obtain ⟨b1, b2, b3, hch⟩ := box3 w x y 23
  go_enter Tryz.func37, Tryz.ntmps37
  go_wp2_with fail
  obtain ⟨w0, HWw0⟩ := name_it ((((w).alloc (.cells #[.bool x.neg, .string x.num, .string x.den] 23)).alloc (.cells #[.bool y.neg, .string y.num, .string y.den] 23)).alloc (.cells #[.bool false, .string ⟨#[]⟩, .string ⟨#[]⟩] 23))
  rw [HWw0.out] at b1 b2 b3 hch ⊢
  refine (rFixN y 0 l _ hy (by omega)).mono ?_
  rintro e w1 ⟨v, rfl, hv, c1⟩
  replace b1 := b1.keep c1 (by simp)
  replace b2 := b2.keep c1 (by simp)
  replace b3 := b3.keep c1 (by simp)
  replace hch := hch.then c1
  clear c1
  have hz := hv.zz rfl
  clear hy hv
  have b1c0 := b1.c0
  have b1c1 := b1.c1
  have b1c2 := b1.c2
  have b1f0 := b1.f0
  have b1f1 := b1.f1
  have b1f2 := b1.f2
  have b1l := b1.lt
  have b2c0 := b2.c0
  have b2c1 := b2.c1
  have b2c2 := b2.c2
  have b2f0 := b2.f0
  have b2f1 := b2.f1
  have b2f2 := b2.f2
  have b2l := b2.lt
  have b3c0 := b3.c0
  have b3c1 := b3.c1
  have b3c2 := b3.c2
  have b3f0 := b3.f0
  have b3f1 := b3.f1
  have b3f2 := b3.f2
  have b3l := b3.lt
  go_wp2_with fail
  have B3 := b3.keep ((Chg.refl [w.heap.size + 1] _).store3 (g := w.heap.size + 1) (.inl (by simp)) (.bool v.neg) (.string v.num) (.string v.den)) (by simp)
  have S := B3.store (.bool false) (.string ⟨#[]⟩) (.string ⟨#[]⟩)
  exact bodyPost_ret (v := .tuple #[.agg #[.bool false, .string ⟨#[]⟩, .string ⟨#[]⟩], .bool false]) (by simp [results, Tryz.results37, go_sem, S.c0, S.c1, S.c2]) rfl ⟨rfl, (hch.store3 (g := w.heap.size + 1) (.inr (by omega)) (.bool v.neg) (.string v.num) (.string v.den)).store3 (g := w.heap.size + 1 + 1) (.inr (by omega)) _ _ _⟩

set_option maxRecDepth 20000 in
set_option maxHeartbeats 1000000 in
theorem rDivideN (x y : Q3) (p q : Rat) (k l : Nat) (w : World) (hx : Num x p k) (hy : Num y q l) (h0 : q ≠ 0) (hk : k + l ≤ 34359738367) :
    Calls Tryz.prog 37 #[.agg #[.bool x.neg, .string x.num, .string x.den], .agg #[.bool y.neg, .string y.num, .string y.den]] w fun e w' => ∃ z, e = .returned (.tuple #[.agg #[.bool z.neg, .string z.num, .string z.den], .bool true]) ∧ Val z (p / q) (k + l) ∧ Chg [] w w' := by
  have H0 := Lib.hid h0
  clear h0
  obtain ⟨b1, b2, b3, hch⟩ := box3 w x y 23
  go_enter Tryz.func37, Tryz.ntmps37
  go_wp2_with fail
  obtain ⟨w0, HWw0⟩ := name_it ((((w).alloc (.cells #[.bool x.neg, .string x.num, .string x.den] 23)).alloc (.cells #[.bool y.neg, .string y.num, .string y.den] 23)).alloc (.cells #[.bool false, .string ⟨#[]⟩, .string ⟨#[]⟩] 23))
  rw [HWw0.out] at b1 b2 b3 hch ⊢
  refine (rFixN y q l _ hy (by omega)).mono ?_
  rintro e w1 ⟨v, rfl, hv, c1⟩
  replace b1 := b1.keep c1 (by simp)
  replace b2 := b2.keep c1 (by simp)
  replace b3 := b3.keep c1 (by simp)
  replace hch := hch.then c1
  clear c1
  have hz := hv.nz H0.out
  clear hy
  have b1c0 := b1.c0
  have b1c1 := b1.c1
  have b1c2 := b1.c2
  have b1f0 := b1.f0
  have b1f1 := b1.f1
  have b1f2 := b1.f2
  have b1l := b1.lt
  have b2c0 := b2.c0
  have b2c1 := b2.c1
  have b2c2 := b2.c2
  have b2f0 := b2.f0
  have b2f1 := b2.f1
  have b2f2 := b2.f2
  have b2l := b2.lt
  have b3c0 := b3.c0
  have b3c1 := b3.c1
  have b3c2 := b3.c2
  have b3f0 := b3.f0
  have b3f1 := b3.f1
  have b3f2 := b3.f2
  have b3l := b3.lt
  go_wp2_with fail
  clear b1c0 b1f0 b1c1 b1f1 b1c2 b1f2 b1l b2c0 b2f0 b2c1 b2f1 b2c2 b2f2 b2l b3c0 b3f0 b3c1 b3f1 b3c2 b3f2 b3l
  replace b1 := b1.keep ((Chg.refl [w.heap.size + 1] _).store3 (g := w.heap.size + 1) (.inl (by simp)) (.bool v.neg) (.string v.num) (.string v.den)) (by simp)
  replace b2 := b2.store (.bool v.neg) (.string v.num) (.string v.den)
  replace b3 := b3.keep ((Chg.refl [w.heap.size + 1] _).store3 (g := w.heap.size + 1) (.inl (by simp)) (.bool v.neg) (.string v.num) (.string v.den)) (by simp)
  replace hch := hch.store3 (g := w.heap.size + 1) (.inr (by omega)) (.bool v.neg) (.string v.num) (.string v.den)
  clear hz
  obtain ⟨w2, HWw2⟩ := name_it (((w1.setCell ⟨w.heap.size + 1, 0, none⟩ (.bool v.neg)).setCell ⟨w.heap.size + 1, 1, none⟩ (.string v.num)).setCell ⟨w.heap.size + 1, 2, none⟩ (.string v.den))
  rw [HWw2.out] at b1 b2 b3 hch ⊢
  replace b1 := b1.keep ((Chg.refl [] _).drew) (by simp)
  replace b2 := b2.keep ((Chg.refl [] _).drew) (by simp)
  replace b3 := b3.keep ((Chg.refl [] _).drew) (by simp)
  replace hch := hch.drew
  go_region_held3 (fun w' => w'.cell? ⟨w.heap.size, 0, none⟩ = some (.bool x.neg) ∧ w'.cell? ⟨w.heap.size, 1, none⟩ = some (.string x.num) ∧ w'.cell? ⟨w.heap.size, 2, none⟩ = some (.string x.den) ∧ w'.cell? ⟨w.heap.size + 1, 0, none⟩ = some (.bool v.neg) ∧ w'.cell? ⟨w.heap.size + 1, 1, none⟩ = some (.string v.num) ∧ w'.cell? ⟨w.heap.size + 1, 2, none⟩ = some (.string v.den)) (first | exact ⟨b1.c0, b1.c1, b1.c2, b2.c0, b2.c1, b2.c2⟩ | exact ⟨by simp [go_sem, b1.c0], by simp [go_sem, b1.c1], by simp [go_sem, b1.c2], by simp [go_sem, b2.c0], by simp [go_sem, b2.c1], by simp [go_sem, b2.c2]⟩) (first
      | (go_at_call 49
         (with_reducible refine (rFixN x p k _ hx (by omega)).mono ?_)
         rintro e w1 ⟨u, rfl, hu, c1⟩
         replace b1 := b1.keep c1 (by simp)
         replace b2 := b2.keep c1 (by simp)
         replace b3 := b3.keep c1 (by simp)
         replace hch := hch.then c1
         clear c1)
      | (go_at_call 70
         (with_reducible refine (rOver_any u v p q k l _ hu hv H0.out hk).mono ?_)
         rintro e w1 ⟨z, rfl, hz, c1⟩
         replace b1 := b1.keep c1 (by simp)
         replace b2 := b2.keep c1 (by simp)
         replace b3 := b3.keep c1 (by simp)
         replace hch := hch.then c1
         have b3c0 := b3.c0
         have b3c1 := b3.c1
         have b3c2 := b3.c2
         have b3f0 := b3.f0
         have b3f1 := b3.f1
         have b3f2 := b3.f2
         clear c1))
  all_goals
    go_wp2_with fail
    have S := b3.store (.bool z.neg) (.string z.num) (.string z.den)
    exact bodyPost_ret (v := .tuple #[.agg #[.bool z.neg, .string z.num, .string z.den], .bool true]) (by simp [results, Tryz.results37, go_sem, S.c0, S.c1, S.c2]) rfl ⟨z, rfl, hz, hch.store3 (.inr (by omega)) _ _ _⟩

end Go.Proofs.YtcliibhooeffdaaGreatDoor
