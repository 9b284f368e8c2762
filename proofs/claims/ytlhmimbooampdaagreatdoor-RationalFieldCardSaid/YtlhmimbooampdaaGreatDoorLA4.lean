/-
  Law: Field.
-/
import Derived.Test.YtlhmimbooampdaaGreatDoorLA1
import Derived.Test.YtlhmimbooampdaaGreatDoorGQ
namespace Go.Proofs.YtlhmimbooampdaaGreatDoor
open Go.RowKit Nd
theorem Blk3.al {w : World} {g : Nat} {a b c : Value} (h : Blk3 w g a b c) (o : Obj) : Blk3 (w.alloc o) g a b c := h.keep ((Chg.refl [] w).alloc o) (by simp)
theorem Blk3.st {w : World} {g k : Nat} {a b c : Value} (h : Blk3 w g a b c) (hk : w.heap.size ≤ k ∨ g < k) (x y z : Value) : Blk3 (((w.setCell ⟨k, 0, none⟩ x).setCell ⟨k, 1, none⟩ y).setCell ⟨k, 2, none⟩ z) g a b c :=
  h.keep ((Chg.refl [k] w).store3 (.inl (by simp)) x y z) (by have := h.lt; simp; omega)
theorem Blk3.ald {w : World} {g : Nat} {a b c : Value} (h : Blk3 w.drew g a b c) (o : Obj) : Blk3 (w.alloc o).drew g a b c :=
  (show Blk3 w g a b c from ⟨h.c0, h.c1, h.c2, h.f0, h.f1, h.f2, h.lt⟩).keep (((Chg.refl [] w).alloc o).drew) (by simp)
theorem Chg.ald {gs : List Nat} {a w : World} (h : Chg gs a w.drew) (o : Obj) : Chg gs a (w.alloc o).drew := ((show Chg gs a w from ⟨h.os, h.tape, h.output, h.size, h.block⟩).alloc o).drew
theorem Blk3.newd (w : World) (e : TypeId) : Blk3 (w.alloc (.cells #[.bool false, .string ⟨#[]⟩, .string ⟨#[]⟩] e)).drew w.heap.size (.bool false) (.string ⟨#[]⟩) (.string ⟨#[]⟩) :=
  (Blk3.alloc w _ _ _ e).keep ((Chg.refl [] _).drew) (by simp)
theorem sg_one {q : Rat} (h : q ≠ 0) : sg q = 1 ∨ sg q = -1 := by
  unfold sg
  by_cases h1 : q < 0
  · exact .inr (if_pos h1)
  · rw [if_neg h1, if_neg h]; exact .inl rfl
theorem sg_nil : sg 0 = 0 := by simp [sg]
theorem mul_div_self {p q : Rat} (h : q ≠ 0) : p * q / q = p := by rw [Rat.div_def, Rat.mul_assoc, Rat.mul_inv_cancel _ h, Rat.mul_one]

set_option maxRecDepth 20000 in
set_option maxHeartbeats 4000000 in
theorem lfield_any (x y z : Q3) (w : World) :
    Calls Tryz.prog 6 #[.agg #[.bool x.neg, .string x.num, .string x.den], .agg #[.bool y.neg, .string y.num, .string y.den], .agg #[.bool z.neg, .string z.num, .string z.den]] w fun e w' => e = .returned (.bool true) ∧ Chg [] w w' := by
  have hch : Chg [] w (((((w).alloc (.cells #[.bool x.neg, .string x.num, .string x.den] 27)).alloc (.cells #[.bool y.neg, .string y.num, .string y.den] 27)).alloc (.cells #[.bool z.neg, .string z.num, .string z.den] 27)).alloc (.cells #[.bool x.neg, .string x.num, .string x.den, .bool y.neg, .string y.num, .string y.den, .bool z.neg, .string z.num, .string z.den] 27)) := (((((Chg.refl _ _).alloc _).alloc _).alloc _).alloc _)
  have b1 := Blk3.alloc (w) (.bool x.neg) (.string x.num) (.string x.den) 27
  replace b1 := b1.keep ((Chg.refl [] _).alloc (.cells #[.bool y.neg, .string y.num, .string y.den] 27)) (by simp)
  replace b1 := b1.keep ((Chg.refl [] _).alloc (.cells #[.bool z.neg, .string z.num, .string z.den] 27)) (by simp)
  replace b1 := b1.keep ((Chg.refl [] _).alloc (.cells #[.bool x.neg, .string x.num, .string x.den, .bool y.neg, .string y.num, .string y.den, .bool z.neg, .string z.num, .string z.den] 27)) (by simp)
  have b2 := Blk3.alloc ((w).alloc (.cells #[.bool x.neg, .string x.num, .string x.den] 27)) (.bool y.neg) (.string y.num) (.string y.den) 27
  replace b2 := b2.keep ((Chg.refl [] _).alloc (.cells #[.bool z.neg, .string z.num, .string z.den] 27)) (by simp)
  replace b2 := b2.keep ((Chg.refl [] _).alloc (.cells #[.bool x.neg, .string x.num, .string x.den, .bool y.neg, .string y.num, .string y.den, .bool z.neg, .string z.num, .string z.den] 27)) (by simp)
  have b3 := Blk3.alloc (((w).alloc (.cells #[.bool x.neg, .string x.num, .string x.den] 27)).alloc (.cells #[.bool y.neg, .string y.num, .string y.den] 27)) (.bool z.neg) (.string z.num) (.string z.den) 27
  replace b3 := b3.keep ((Chg.refl [] _).alloc (.cells #[.bool x.neg, .string x.num, .string x.den, .bool y.neg, .string y.num, .string y.den, .bool z.neg, .string z.num, .string z.den] 27)) (by simp)
  have hr := Rats.three ((((w).alloc (.cells #[.bool x.neg, .string x.num, .string x.den] 27)).alloc (.cells #[.bool y.neg, .string y.num, .string y.den] 27)).alloc (.cells #[.bool z.neg, .string z.num, .string z.den] 27)) x y z 27
  simp only [World.size_alloc] at hr b1 b2 b3
  cases hf : fewQ [x, y, z]
  · have HF := Lib.hid hf
    clear hf
    go_enter Tryz.func6, Tryz.ntmps6
    go_wp2_with fail
    refine (few2_any [x, y, z] (w.heap.size + 1 + 1 + 1) 3 _ hr (by simp)).mono ?_
    rintro e w1 ⟨rfl, c1⟩
    rw [HF.out]
    replace hch := hch.then c1
    clear c1
    go_wp2_with fail
    refine (awake2_any _).mono ?_
    rintro e w2 ⟨rfl, c1⟩
    replace hch := hch.then c1
    clear c1
    go_wp2_with fail
    go_ret
    exact ⟨rfl, hch⟩
  · have hss : x.num.size ≤ 24 ∧ x.den.size ≤ 24 ∧ y.num.size ≤ 24 ∧ y.den.size ≤ 24 ∧ z.num.size ≤ 24 ∧ z.den.size ≤ 24 := by simpa [fewQ, shortQ, and_assoc] using hf
    have HF := Lib.hid hf
    obtain ⟨sx1, sx2, sy1, sy2, sz1, sz2⟩ := hss
    obtain ⟨p, Hp⟩ := name_it (ratOf x)
    have nx : Num x p 24 := ⟨Hp.out, ⟨sx1, sx2⟩, by omega⟩
    obtain ⟨q, Hq⟩ := name_it (ratOf y)
    have ny : Num y q 24 := ⟨Hq.out, ⟨sy1, sy2⟩, by omega⟩
    obtain ⟨r, Hr⟩ := name_it (ratOf z)
    have nz : Num z r 24 := ⟨Hr.out, ⟨sz1, sz2⟩, by omega⟩
    clear hf sx1 sx2 sy1 sy2 sz1 sz2 Hp Hq Hr
    go_enter Tryz.func6, Tryz.ntmps6
    go_wp2_with fail
    refine (few2_any [x, y, z] (w.heap.size + 1 + 1 + 1) 3 _ hr (by simp)).mono ?_
    rintro e w1 ⟨rfl, c1⟩
    rw [HF.out]
    replace b1 := b1.keep c1 (by simp)
    replace b2 := b2.keep c1 (by simp)
    replace b3 := b3.keep c1 (by simp)
    replace hch := hch.then c1
    clear c1 hr HF
    have b1c0 := b1.c0
    have b1c1 := b1.c1
    have b1c2 := b1.c2
    have b1f0 := b1.f0
    have b1f1 := b1.f1
    have b1f2 := b1.f2
    have b1l := b1.lt
    have b2c0 := b2.c0
    have b2c1 := b2.c1
    have b2c2 := b2.c2
    have b2f0 := b2.f0
    have b2f1 := b2.f1
    have b2f2 := b2.f2
    have b2l := b2.lt
    have b3c0 := b3.c0
    have b3c1 := b3.c1
    have b3c2 := b3.c2
    have b3f0 := b3.f0
    have b3f1 := b3.f1
    have b3f2 := b3.f2
    have b3l := b3.lt
    go_wp2_with fail
    clear b1c0 b1f0 b1c1 b1f1 b1c2 b1f2 b1l b2c0 b2f0 b2c1 b2f1 b2c2 b2f2 b2l b3c0 b3f0 b3c1 b3f1 b3c2 b3f2 b3l
    obtain ⟨w0, HW0⟩ := name_it w1
    rw [HW0.out] at b1 b2 b3 hch ⊢
    replace b1 := b1.keep ((Chg.refl [] _).drew) (by simp)
    replace b2 := b2.keep ((Chg.refl [] _).drew) (by simp)
    replace b3 := b3.keep ((Chg.refl [] _).drew) (by simp)
    replace hch := hch.drew
    go_region_held3 (fun w' => w'.cell? ⟨w.heap.size, 0, none⟩ = some (.bool x.neg) ∧ w'.cell? ⟨w.heap.size, 1, none⟩ = some (.string x.num) ∧ w'.cell? ⟨w.heap.size, 2, none⟩ = some (.string x.den) ∧ w'.cell? ⟨w.heap.size + 1, 0, none⟩ = some (.bool y.neg) ∧ w'.cell? ⟨w.heap.size + 1, 1, none⟩ = some (.string y.num) ∧ w'.cell? ⟨w.heap.size + 1, 2, none⟩ = some (.string y.den) ∧ w'.cell? ⟨w.heap.size + 1 + 1, 0, none⟩ = some (.bool z.neg) ∧ w'.cell? ⟨w.heap.size + 1 + 1, 1, none⟩ = some (.string z.num) ∧ w'.cell? ⟨w.heap.size + 1 + 1, 2, none⟩ = some (.string z.den)) (first | exact ⟨b1.c0, b1.c1, b1.c2, b2.c0, b2.c1, b2.c2, b3.c0, b3.c1, b3.c2⟩ | exact ⟨by simp [go_sem, b1.c0], by simp [go_sem, b1.c1], by simp [go_sem, b1.c2], by simp [go_sem, b2.c0], by simp [go_sem, b2.c1], by simp [go_sem, b2.c2], by simp [go_sem, b3.c0], by simp [go_sem, b3.c1], by simp [go_sem, b3.c2]⟩) (first
        | (go_at_call 24
           (with_reducible refine (AddN x y p q 24 24 _ nx ny (by omega)).mono ?_)
           rintro e w1 ⟨u, rfl, hu, c1⟩
           replace b1 := b1.keep c1 (by simp)
           replace b2 := b2.keep c1 (by simp)
           replace b3 := b3.keep c1 (by simp)
           replace hch := hch.then c1
           clear c1)
        | (go_at_call 24
           (with_reducible refine (AddN u z (p + q) r 49 24 _ hu.num nz (by omega)).mono ?_)
           rintro e w1 ⟨s, rfl, hs, c1⟩
           replace b1 := b1.keep c1 (by simp)
           replace b2 := b2.keep c1 (by simp)
           replace b3 := b3.keep c1 (by simp)
           replace hch := hch.then c1
           clear c1)
        | (go_at_call 24
           (with_reducible refine (AddN y z q r 24 24 _ ny nz (by omega)).mono ?_)
           rintro e w1 ⟨v, rfl, hv, c1⟩
           replace b1 := b1.keep c1 (by simp)
           replace b2 := b2.keep c1 (by simp)
           replace b3 := b3.keep c1 (by simp)
           replace hch := hch.then c1
           clear c1)
        | (go_at_call 24
           (with_reducible refine (AddN x v p (q + r) 24 49 _ nx hv.num (by omega)).mono ?_)
           rintro e w1 ⟨t, rfl, ht, c1⟩
           replace b1 := b1.keep c1 (by simp)
           replace b2 := b2.keep c1 (by simp)
           replace b3 := b3.keep c1 (by simp)
           replace hch := hch.then c1
           rw [← Rat.add_assoc] at ht
           obtain rfl := hs.unique ht
           clear c1))
    all_goals
      clear hu hs hv ht
      obtain ⟨v2, HV2⟩ := name_it w1
      rw [HV2.out] at b1 b2 b3 hch ⊢
      have b1c0 := b1.c0
      have b1c1 := b1.c1
      have b1c2 := b1.c2
      have b1f0 := b1.f0
      have b1f1 := b1.f1
      have b1f2 := b1.f2
      have b1l := b1.lt
      have b2c0 := b2.c0
      have b2c1 := b2.c1
      have b2c2 := b2.c2
      have b2f0 := b2.f0
      have b2f1 := b2.f1
      have b2f2 := b2.f2
      have b2l := b2.lt
      have b3c0 := b3.c0
      have b3c1 := b3.c1
      have b3c2 := b3.c2
      have b3f0 := b3.f0
      have b3f1 := b3.f1
      have b3f2 := b3.f2
      have b3l := b3.lt
      go_wp2_with fail
      clear b1c0 b1f0 b1c1 b1f1 b1c2 b1f2 b1l b2c0 b2f0 b2c1 b2f1 b2c2 b2f2 b2l b3c0 b3f0 b3c1 b3f1 b3c2 b3f2 b3l
      skip
      replace b1 := b1.keep ((Chg.refl [] _).drew) (by simp)
      replace b2 := b2.keep ((Chg.refl [] _).drew) (by simp)
      replace b3 := b3.keep ((Chg.refl [] _).drew) (by simp)
      replace hch := hch.drew
      go_region_held3 (fun w' => w'.cell? ⟨w.heap.size, 0, none⟩ = some (.bool x.neg) ∧ w'.cell? ⟨w.heap.size, 1, none⟩ = some (.string x.num) ∧ w'.cell? ⟨w.heap.size, 2, none⟩ = some (.string x.den) ∧ w'.cell? ⟨w.heap.size + 1, 0, none⟩ = some (.bool y.neg) ∧ w'.cell? ⟨w.heap.size + 1, 1, none⟩ = some (.string y.num) ∧ w'.cell? ⟨w.heap.size + 1, 2, none⟩ = some (.string y.den) ∧ w'.cell? ⟨w.heap.size + 1 + 1, 0, none⟩ = some (.bool z.neg) ∧ w'.cell? ⟨w.heap.size + 1 + 1, 1, none⟩ = some (.string z.num) ∧ w'.cell? ⟨w.heap.size + 1 + 1, 2, none⟩ = some (.string z.den)) (first | exact ⟨b1.c0, b1.c1, b1.c2, b2.c0, b2.c1, b2.c2, b3.c0, b3.c1, b3.c2⟩ | exact ⟨by simp [go_sem, b1.c0], by simp [go_sem, b1.c1], by simp [go_sem, b1.c2], by simp [go_sem, b2.c0], by simp [go_sem, b2.c1], by simp [go_sem, b2.c2], by simp [go_sem, b3.c0], by simp [go_sem, b3.c1], by simp [go_sem, b3.c2]⟩) (first
          | (go_at_call 16
             (with_reducible refine (MultiplyN x y p q 24 24 _ nx ny (by omega)).mono ?_)
             rintro e w1 ⟨u, rfl, hu, c1⟩
             replace b1 := b1.keep c1 (by simp)
             replace b2 := b2.keep c1 (by simp)
             replace b3 := b3.keep c1 (by simp)
             replace hch := hch.then c1
             clear c1)
          | (go_at_call 16
             (with_reducible refine (MultiplyN u z (p * q) r 48 24 _ hu.num nz (by omega)).mono ?_)
             rintro e w1 ⟨s, rfl, hs, c1⟩
             replace b1 := b1.keep c1 (by simp)
             replace b2 := b2.keep c1 (by simp)
             replace b3 := b3.keep c1 (by simp)
             replace hch := hch.then c1
             clear c1)
          | (go_at_call 16
             (with_reducible refine (MultiplyN y z q r 24 24 _ ny nz (by omega)).mono ?_)
             rintro e w1 ⟨v, rfl, hv, c1⟩
             replace b1 := b1.keep c1 (by simp)
             replace b2 := b2.keep c1 (by simp)
             replace b3 := b3.keep c1 (by simp)
             replace hch := hch.then c1
             clear c1)
          | (go_at_call 16
             (with_reducible refine (MultiplyN x v p (q * r) 24 48 _ nx hv.num (by omega)).mono ?_)
             rintro e w1 ⟨t, rfl, ht, c1⟩
             replace b1 := b1.keep c1 (by simp)
             replace b2 := b2.keep c1 (by simp)
             replace b3 := b3.keep c1 (by simp)
             replace hch := hch.then c1
             rw [← Rat.mul_assoc] at ht
             obtain rfl := hs.unique ht
             clear c1))
      all_goals
        clear hu hs hv ht
        obtain ⟨v2, HV2⟩ := name_it w1
        rw [HV2.out] at b1 b2 b3 hch ⊢
        have b1c0 := b1.c0
        have b1c1 := b1.c1
        have b1c2 := b1.c2
        have b1f0 := b1.f0
        have b1f1 := b1.f1
        have b1f2 := b1.f2
        have b1l := b1.lt
        have b2c0 := b2.c0
        have b2c1 := b2.c1
        have b2c2 := b2.c2
        have b2f0 := b2.f0
        have b2f1 := b2.f1
        have b2f2 := b2.f2
        have b2l := b2.lt
        have b3c0 := b3.c0
        have b3c1 := b3.c1
        have b3c2 := b3.c2
        have b3f0 := b3.f0
        have b3f1 := b3.f1
        have b3f2 := b3.f2
        have b3l := b3.lt
        go_wp2_with fail
        clear b1c0 b1f0 b1c1 b1f1 b1c2 b1f2 b1l b2c0 b2f0 b2c1 b2f1 b2c2 b2f2 b2l b3c0 b3f0 b3c1 b3f1 b3c2 b3f2 b3l
        skip
        replace b1 := b1.keep ((Chg.refl [] _).drew) (by simp)
        replace b2 := b2.keep ((Chg.refl [] _).drew) (by simp)
        replace b3 := b3.keep ((Chg.refl [] _).drew) (by simp)
        replace hch := hch.drew
        go_region_held3 (fun w' => w'.cell? ⟨w.heap.size, 0, none⟩ = some (.bool x.neg) ∧ w'.cell? ⟨w.heap.size, 1, none⟩ = some (.string x.num) ∧ w'.cell? ⟨w.heap.size, 2, none⟩ = some (.string x.den) ∧ w'.cell? ⟨w.heap.size + 1, 0, none⟩ = some (.bool y.neg) ∧ w'.cell? ⟨w.heap.size + 1, 1, none⟩ = some (.string y.num) ∧ w'.cell? ⟨w.heap.size + 1, 2, none⟩ = some (.string y.den) ∧ w'.cell? ⟨w.heap.size + 1 + 1, 0, none⟩ = some (.bool z.neg) ∧ w'.cell? ⟨w.heap.size + 1 + 1, 1, none⟩ = some (.string z.num) ∧ w'.cell? ⟨w.heap.size + 1 + 1, 2, none⟩ = some (.string z.den)) (first | exact ⟨b1.c0, b1.c1, b1.c2, b2.c0, b2.c1, b2.c2, b3.c0, b3.c1, b3.c2⟩ | exact ⟨by simp [go_sem, b1.c0], by simp [go_sem, b1.c1], by simp [go_sem, b1.c2], by simp [go_sem, b2.c0], by simp [go_sem, b2.c1], by simp [go_sem, b2.c2], by simp [go_sem, b3.c0], by simp [go_sem, b3.c1], by simp [go_sem, b3.c2]⟩) (first
            | (go_at_call 24
               (with_reducible refine (AddN y z q r 24 24 _ ny nz (by omega)).mono ?_)
               rintro e w1 ⟨u, rfl, hu, c1⟩
               replace b1 := b1.keep c1 (by simp)
               replace b2 := b2.keep c1 (by simp)
               replace b3 := b3.keep c1 (by simp)
               replace hch := hch.then c1
               clear c1)
            | (go_at_call 16
               (with_reducible refine (MultiplyN x u p (q + r) 24 49 _ nx hu.num (by omega)).mono ?_)
               rintro e w1 ⟨s, rfl, hs, c1⟩
               replace b1 := b1.keep c1 (by simp)
               replace b2 := b2.keep c1 (by simp)
               replace b3 := b3.keep c1 (by simp)
               replace hch := hch.then c1
               clear c1)
            | (go_at_call 16
               (with_reducible refine (MultiplyN x y p q 24 24 _ nx ny (by omega)).mono ?_)
               rintro e w1 ⟨v, rfl, hv, c1⟩
               replace b1 := b1.keep c1 (by simp)
               replace b2 := b2.keep c1 (by simp)
               replace b3 := b3.keep c1 (by simp)
               replace hch := hch.then c1
               clear c1)
            | (go_at_call 16
               (with_reducible refine (MultiplyN x z p r 24 24 _ nx nz (by omega)).mono ?_)
               rintro e w1 ⟨t, rfl, ht, c1⟩
               replace b1 := b1.keep c1 (by simp)
               replace b2 := b2.keep c1 (by simp)
               replace b3 := b3.keep c1 (by simp)
               replace hch := hch.then c1
               clear c1)
            | (go_at_call 24
               (with_reducible refine (AddN v t (p * q) (p * r) 48 48 _ hv.num ht.num (by omega)).mono ?_)
               rintro e w1 ⟨m, rfl, hm, c1⟩
               replace b1 := b1.keep c1 (by simp)
               replace b2 := b2.keep c1 (by simp)
               replace b3 := b3.keep c1 (by simp)
               replace hch := hch.then c1
               rw [← Rat.mul_add] at hm
               obtain rfl := hs.unique hm
               clear c1))
        all_goals
          clear hu hs hv ht hm
          obtain ⟨v2, HV2⟩ := name_it w1
          rw [HV2.out] at b1 b2 b3 hch ⊢
          have b1c0 := b1.c0
          have b1c1 := b1.c1
          have b1c2 := b1.c2
          have b1f0 := b1.f0
          have b1f1 := b1.f1
          have b1f2 := b1.f2
          have b1l := b1.lt
          have b2c0 := b2.c0
          have b2c1 := b2.c1
          have b2c2 := b2.c2
          have b2f0 := b2.f0
          have b2f1 := b2.f1
          have b2f2 := b2.f2
          have b2l := b2.lt
          have b3c0 := b3.c0
          have b3c1 := b3.c1
          have b3c2 := b3.c2
          have b3f0 := b3.f0
          have b3f1 := b3.f1
          have b3f2 := b3.f2
          have b3l := b3.lt
          go_wp2_with fail
          clear b1c0 b1f0 b1c1 b1f1 b1c2 b1f2 b1l b2c0 b2f0 b2c1 b2f1 b2c2 b2f2 b2l b3c0 b3f0 b3c1 b3f1 b3c2 b3f2 b3l
          skip
          replace b1 := b1.keep ((Chg.refl [] _).drew) (by simp)
          replace b2 := b2.keep ((Chg.refl [] _).drew) (by simp)
          replace b3 := b3.keep ((Chg.refl [] _).drew) (by simp)
          replace hch := hch.drew
          go_region_held3 (fun w' => w'.cell? ⟨w.heap.size, 0, none⟩ = some (.bool x.neg) ∧ w'.cell? ⟨w.heap.size, 1, none⟩ = some (.string x.num) ∧ w'.cell? ⟨w.heap.size, 2, none⟩ = some (.string x.den) ∧ w'.cell? ⟨w.heap.size + 1, 0, none⟩ = some (.bool y.neg) ∧ w'.cell? ⟨w.heap.size + 1, 1, none⟩ = some (.string y.num) ∧ w'.cell? ⟨w.heap.size + 1, 2, none⟩ = some (.string y.den) ∧ w'.cell? ⟨w.heap.size + 1 + 1, 0, none⟩ = some (.bool z.neg) ∧ w'.cell? ⟨w.heap.size + 1 + 1, 1, none⟩ = some (.string z.num) ∧ w'.cell? ⟨w.heap.size + 1 + 1, 2, none⟩ = some (.string z.den)) (first | exact ⟨b1.c0, b1.c1, b1.c2, b2.c0, b2.c1, b2.c2, b3.c0, b3.c1, b3.c2⟩ | exact ⟨by simp [go_sem, b1.c0], by simp [go_sem, b1.c1], by simp [go_sem, b1.c2], by simp [go_sem, b2.c0], by simp [go_sem, b2.c1], by simp [go_sem, b2.c2], by simp [go_sem, b3.c0], by simp [go_sem, b3.c1], by simp [go_sem, b3.c2]⟩) (first
              | (go_at_call 24
                 (with_reducible refine (AddN x y p q 24 24 _ nx ny (by omega)).mono ?_)
                 rintro e w1 ⟨u, rfl, hu, c1⟩
                 replace b1 := b1.keep c1 (by simp)
                 replace b2 := b2.keep c1 (by simp)
                 replace b3 := b3.keep c1 (by simp)
                 replace hch := hch.then c1
                 clear c1)
              | (go_at_call 23
                 (with_reducible refine (SubtractN u y (p + q) q 49 24 _ hu.num ny (by omega)).mono ?_)
                 rintro e w1 ⟨s, rfl, hs, c1⟩
                 replace b1 := b1.keep c1 (by simp)
                 replace b2 := b2.keep c1 (by simp)
                 replace b3 := b3.keep c1 (by simp)
                 replace hch := hch.then c1
                 rw [show p + q - q = p by grind] at hs
                 clear c1)
              | (go_at_call 25
                 (with_reducible refine (rFixN x p 24 _ nx (by omega)).mono ?_)
                 rintro e w1 ⟨t, rfl, ht, c1⟩
                 replace b1 := b1.keep c1 (by simp)
                 replace b2 := b2.keep c1 (by simp)
                 replace b3 := b3.keep c1 (by simp)
                 replace hch := hch.then c1
                 obtain rfl := hs.unique ht
                 clear c1))
          all_goals
            clear hu hs ht
            obtain ⟨v2, HV2⟩ := name_it w1
            rw [HV2.out] at b1 b2 b3 hch ⊢
            have b1c0 := b1.c0
            have b1c1 := b1.c1
            have b1c2 := b1.c2
            have b1f0 := b1.f0
            have b1f1 := b1.f1
            have b1f2 := b1.f2
            have b1l := b1.lt
            have b2c0 := b2.c0
            have b2c1 := b2.c1
            have b2c2 := b2.c2
            have b2f0 := b2.f0
            have b2f1 := b2.f1
            have b2f2 := b2.f2
            have b2l := b2.lt
            have b3c0 := b3.c0
            have b3c1 := b3.c1
            have b3c2 := b3.c2
            have b3f0 := b3.f0
            have b3f1 := b3.f1
            have b3f2 := b3.f2
            have b3l := b3.lt
            go_wp2_with fail
            clear b1c0 b1f0 b1c1 b1f1 b1c2 b1f2 b1l b2c0 b2f0 b2c1 b2f1 b2c2 b2f2 b2l b3c0 b3f0 b3c1 b3f1 b3c2 b3f2 b3l
            skip
            go_cut [11, 12] (fun av kv wx => ∃ (g : Nat) (m : Q3), av = .pointer (some ⟨g, 0, none⟩) ∧ kv = .bool (decide (q ≠ 0)) ∧ (q ≠ 0 → Val m p 72) ∧ Blk3 wx (w.heap.size) (.bool x.neg) (.string x.num) (.string x.den) ∧ Blk3 wx (w.heap.size + 1) (.bool y.neg) (.string y.num) (.string y.den) ∧ Blk3 wx (w.heap.size + 1 + 1) (.bool z.neg) (.string z.num) (.string z.den) ∧ Blk3 wx (g) (.bool m.neg) (.string m.num) (.string m.den) ∧ Chg [] w wx)
            case first =>
              by_cases hq0 : q = 0
              · subst hq0
                have lv1 : w.heap.size < v2.heap.size := b1.lt
                have lv2 : w.heap.size + 1 < v2.heap.size := b2.lt
                have lv3 : w.heap.size + 1 + 1 < v2.heap.size := b3.lt
                have lw : w.heap.size ≤ v2.heap.size := hch.size
                replace b1 := b1.keep ((Chg.refl [] _).drew) (by simp)
                replace b2 := b2.keep ((Chg.refl [] _).drew) (by simp)
                replace b3 := b3.keep ((Chg.refl [] _).drew) (by simp)
                replace hch := hch.drew
                go_region_held3 (fun w' => w'.cell? ⟨w.heap.size, 0, none⟩ = some (.bool x.neg) ∧ w'.cell? ⟨w.heap.size, 1, none⟩ = some (.string x.num) ∧ w'.cell? ⟨w.heap.size, 2, none⟩ = some (.string x.den) ∧ w'.cell? ⟨w.heap.size + 1, 0, none⟩ = some (.bool y.neg) ∧ w'.cell? ⟨w.heap.size + 1, 1, none⟩ = some (.string y.num) ∧ w'.cell? ⟨w.heap.size + 1, 2, none⟩ = some (.string y.den)) (first | with_reducible exact ⟨(b1).c0, (b1).c1, (b1).c2, (b2).c0, (b2).c1, (b2).c2⟩ | with_reducible exact ⟨(b1.ald _).c0, (b1.ald _).c1, (b1.ald _).c2, (b2.ald _).c0, (b2.ald _).c1, (b2.ald _).c2⟩ | with_reducible exact ⟨(b1.al _).c0, (b1.al _).c1, (b1.al _).c2, (b2.al _).c0, (b2.al _).c1, (b2.al _).c2⟩ | with_reducible exact ⟨(b1.st (.inr (by omega)) _ _ _).c0, (b1.st (.inr (by omega)) _ _ _).c1, (b1.st (.inr (by omega)) _ _ _).c2, (b2.st (.inr (by omega)) _ _ _).c0, (b2.st (.inr (by omega)) _ _ _).c1, (b2.st (.inr (by omega)) _ _ _).c2⟩) (first
                    | (go_at_call 16
                       (with_reducible refine (MultiplyN x y p 0 24 24 _ nx ny (by omega)).mono ?_)
                       rintro e w1 ⟨u, rfl, hu, c1⟩
                       first
                         | with_reducible (replace b1 := b1.keep c1 (by simp); replace b2 := b2.keep c1 (by simp); replace b3 := b3.keep c1 (by simp); replace hch := hch.then c1)
                         | with_reducible (replace b1 := (b1.ald _).keep c1 (by simp); replace b2 := (b2.ald _).keep c1 (by simp); replace b3 := (b3.ald _).keep c1 (by simp); replace hch := (hch.ald _).then c1; have b5 := (Blk3.newd v2 27).keep c1 (by simp))
                       clear c1
                       have lm1 := b1.lt
                       have lm2 := b2.lt
                       have lm3 := b3.lt)
                    | (go_at_call 21
                       (with_reducible refine (Divide_zeroN u y _ 48 24 _ hu.num ny (by omega)).mono ?_)
                       rintro e w1 ⟨rfl, c1⟩
                       first
                         | with_reducible (replace b1 := b1.keep c1 (by simp); replace b2 := b2.keep c1 (by simp); replace b3 := b3.keep c1 (by simp); replace hch := hch.then c1; try replace b5 := b5.keep c1 (by simp))
                         | with_reducible (replace b1 := (b1.al _).keep c1 (by simp); replace b2 := (b2.al _).keep c1 (by simp); replace b3 := (b3.al _).keep c1 (by simp); replace hch := (hch.alloc _).then c1; have b5 := (Blk3.alloc _ (.bool false) (.string ⟨#[]⟩) (.string ⟨#[]⟩) 27).keep c1 (by simp))
                       clear c1
                       have ld1 := b1.lt
                       have ld2 := b2.lt
                       have ld3 := b3.lt
                       try (have b5c0 := b5.c0; have b5c1 := b5.c1; have b5c2 := b5.c2; have b5f0 := b5.f0; have b5f1 := b5.f1; have b5f2 := b5.f2; have b5l := b5.lt)))
                all_goals
                  go_wp2_with fail
                  go_meet
                  first
                    | exact ⟨_, ⟨false, ⟨#[]⟩, ⟨#[]⟩⟩, rfl, by simp, fun h => absurd rfl h, b1.al _, b2.al _, b3.al _, Blk3.alloc _ _ _ _ _, hch.alloc _⟩
                    | exact ⟨_, ⟨false, ⟨#[]⟩, ⟨#[]⟩⟩, rfl, by simp, fun h => absurd rfl h, b1.st (.inr (by omega)) _ _ _, b2.st (.inr (by omega)) _ _ _, b3.st (.inr (by omega)) _ _ _, b5.store _ _ _, hch.store3 (.inr (by omega)) _ _ _⟩
              · have H0 := Lib.hid hq0
                clear hq0
                have lv1 : w.heap.size < v2.heap.size := b1.lt
                have lv2 : w.heap.size + 1 < v2.heap.size := b2.lt
                have lv3 : w.heap.size + 1 + 1 < v2.heap.size := b3.lt
                have lw : w.heap.size ≤ v2.heap.size := hch.size
                replace b1 := b1.keep ((Chg.refl [] _).drew) (by simp)
                replace b2 := b2.keep ((Chg.refl [] _).drew) (by simp)
                replace b3 := b3.keep ((Chg.refl [] _).drew) (by simp)
                replace hch := hch.drew
                go_region_held3 (fun w' => w'.cell? ⟨w.heap.size, 0, none⟩ = some (.bool x.neg) ∧ w'.cell? ⟨w.heap.size, 1, none⟩ = some (.string x.num) ∧ w'.cell? ⟨w.heap.size, 2, none⟩ = some (.string x.den) ∧ w'.cell? ⟨w.heap.size + 1, 0, none⟩ = some (.bool y.neg) ∧ w'.cell? ⟨w.heap.size + 1, 1, none⟩ = some (.string y.num) ∧ w'.cell? ⟨w.heap.size + 1, 2, none⟩ = some (.string y.den)) (first | with_reducible exact ⟨(b1).c0, (b1).c1, (b1).c2, (b2).c0, (b2).c1, (b2).c2⟩ | with_reducible exact ⟨(b1.ald _).c0, (b1.ald _).c1, (b1.ald _).c2, (b2.ald _).c0, (b2.ald _).c1, (b2.ald _).c2⟩ | with_reducible exact ⟨(b1.al _).c0, (b1.al _).c1, (b1.al _).c2, (b2.al _).c0, (b2.al _).c1, (b2.al _).c2⟩ | with_reducible exact ⟨(b1.st (.inr (by omega)) _ _ _).c0, (b1.st (.inr (by omega)) _ _ _).c1, (b1.st (.inr (by omega)) _ _ _).c2, (b2.st (.inr (by omega)) _ _ _).c0, (b2.st (.inr (by omega)) _ _ _).c1, (b2.st (.inr (by omega)) _ _ _).c2⟩) (first
                    | (go_at_call 16
                       (with_reducible refine (MultiplyN x y p q 24 24 _ nx ny (by omega)).mono ?_)
                       rintro e w1 ⟨u, rfl, hu, c1⟩
                       first
                         | with_reducible (replace b1 := b1.keep c1 (by simp); replace b2 := b2.keep c1 (by simp); replace b3 := b3.keep c1 (by simp); replace hch := hch.then c1)
                         | with_reducible (replace b1 := (b1.ald _).keep c1 (by simp); replace b2 := (b2.ald _).keep c1 (by simp); replace b3 := (b3.ald _).keep c1 (by simp); replace hch := (hch.ald _).then c1; have b5 := (Blk3.newd v2 27).keep c1 (by simp))
                       clear c1
                       have lm1 := b1.lt
                       have lm2 := b2.lt
                       have lm3 := b3.lt)
                    | (go_at_call 21
                       (with_reducible refine (DivideN u y (p * q) q 48 24 _ hu.num ny H0.out (by omega)).mono ?_)
                       rintro e w1 ⟨m, rfl, hm, c1⟩
                       first
                         | with_reducible (replace b1 := b1.keep c1 (by simp); replace b2 := b2.keep c1 (by simp); replace b3 := b3.keep c1 (by simp); replace hch := hch.then c1; try replace b5 := b5.keep c1 (by simp))
                         | with_reducible (replace b1 := (b1.al _).keep c1 (by simp); replace b2 := (b2.al _).keep c1 (by simp); replace b3 := (b3.al _).keep c1 (by simp); replace hch := (hch.alloc _).then c1; have b5 := (Blk3.alloc _ (.bool false) (.string ⟨#[]⟩) (.string ⟨#[]⟩) 27).keep c1 (by simp))
                       clear c1
                       have ld1 := b1.lt
                       have ld2 := b2.lt
                       have ld3 := b3.lt
                       try (have b5c0 := b5.c0; have b5c1 := b5.c1; have b5c2 := b5.c2; have b5f0 := b5.f0; have b5f1 := b5.f1; have b5f2 := b5.f2; have b5l := b5.lt)))
                all_goals
                  rw [mul_div_self H0.out] at hm
                  go_wp2_with fail
                  go_meet
                  first
                    | exact ⟨_, m, rfl, by simp [H0.out], fun _ => hm, b1.al _, b2.al _, b3.al _, Blk3.alloc _ _ _ _ _, hch.alloc _⟩
                    | exact ⟨_, m, rfl, by simp [H0.out], fun _ => hm, b1.st (.inr (by omega)) _ _ _, b2.st (.inr (by omega)) _ _ _, b3.st (.inr (by omega)) _ _ _, b5.store _ _ _, hch.store3 (.inr (by omega)) _ _ _⟩
            case rest =>
              clear b1 b2 b3 hch
              obtain ⟨g, m, rfl, rfl, hm, b1, b2, b3, b5, hch⟩ := hcut
              obtain ⟨v4, HV4⟩ := name_it wc
              rw [HV4.out] at b1 b2 b3 b5 hch ⊢
              by_cases hq0 : q = 0
              · subst hq0
                rw [show decide ((0 : Rat) ≠ 0) = false by simp]
                go_wp2_with fail
                replace b1 := b1.keep ((Chg.refl [] _).drew) (by simp)
                replace b2 := b2.keep ((Chg.refl [] _).drew) (by simp)
                replace b3 := b3.keep ((Chg.refl [] _).drew) (by simp)
                replace b5 := b5.keep ((Chg.refl [] _).drew) (by simp)
                replace hch := hch.drew
                have b1c0 := b1.c0
                have b1c1 := b1.c1
                have b1c2 := b1.c2
                have b1f0 := b1.f0
                have b1f1 := b1.f1
                have b1f2 := b1.f2
                have b1l := b1.lt
                have b2c0 := b2.c0
                have b2c1 := b2.c1
                have b2c2 := b2.c2
                have b2f0 := b2.f0
                have b2f1 := b2.f1
                have b2f2 := b2.f2
                have b2l := b2.lt
                have b3c0 := b3.c0
                have b3c1 := b3.c1
                have b3c2 := b3.c2
                have b3f0 := b3.f0
                have b3f1 := b3.f1
                have b3f2 := b3.f2
                have b3l := b3.lt
                have b5c0 := b5.c0
                have b5c1 := b5.c1
                have b5c2 := b5.c2
                have b5f0 := b5.f0
                have b5f1 := b5.f1
                have b5f2 := b5.f2
                have b5l := b5.lt
                go_region_with (first
                    | (go_at_call 18
                       (with_reducible refine (SignN y 0 24 _ ny (by omega)).mono ?_)
                       rintro e w1 ⟨rfl, c1⟩
                       clear b1c0 b1f0 b1c1 b1f1 b1c2 b1f2 b1l b2c0 b2f0 b2c1 b2f1 b2c2 b2f2 b2l b3c0 b3f0 b3c1 b3f1 b3c2 b3f2 b3l b5c0 b5f0 b5c1 b5f1 b5c2 b5f2 b5l
                       replace b1 := b1.keep c1 (by simp)
                       replace b2 := b2.keep c1 (by simp)
                       replace b3 := b3.keep c1 (by simp)
                       replace b5 := b5.keep c1 (by simp)
                       replace hch := hch.then c1
                       clear c1
                       rw [sg_nil]
                       have b1c0 := b1.c0
                       have b1f0 := b1.f0
                       have b1c1 := b1.c1
                       have b1f1 := b1.f1
                       have b1c2 := b1.c2
                       have b1f2 := b1.f2
                       have b1l := b1.lt
                       have b2c0 := b2.c0
                       have b2f0 := b2.f0
                       have b2c1 := b2.c1
                       have b2f1 := b2.f1
                       have b2c2 := b2.c2
                       have b2f2 := b2.f2
                       have b2l := b2.lt
                       have b3c0 := b3.c0
                       have b3f0 := b3.f0
                       have b3c1 := b3.c1
                       have b3f1 := b3.f1
                       have b3c2 := b3.c2
                       have b3f2 := b3.f2
                       have b3l := b3.lt
                       have b5c0 := b5.c0
                       have b5f0 := b5.f0
                       have b5c1 := b5.c1
                       have b5f1 := b5.f1
                       have b5c2 := b5.c2
                       have b5f2 := b5.f2
                       have b5l := b5.lt))
                all_goals
                  go_wp2_with fail
                  refine (awake2_any _).mono ?_
                  rintro e w3 ⟨rfl, c1⟩
                  replace hch := hch.then c1
                  go_wp2_with fail
                  go_ret
                  exact ⟨ret_eq (by simp), hch⟩
              · have vm := hm hq0
                rw [show decide (q ≠ 0) = true by simp [hq0]]
                clear hm
                rcases sg_one hq0 with hg | hg
                all_goals
                  have HG := Lib.hid hg
                  clear hg
                  go_wp2_with fail
                  replace b1 := b1.keep ((Chg.refl [] _).drew) (by simp)
                  replace b2 := b2.keep ((Chg.refl [] _).drew) (by simp)
                  replace b3 := b3.keep ((Chg.refl [] _).drew) (by simp)
                  replace b5 := b5.keep ((Chg.refl [] _).drew) (by simp)
                  replace hch := hch.drew
                  go_region_held3 (fun w' => w'.cell? ⟨w.heap.size, 0, none⟩ = some (.bool x.neg) ∧ w'.cell? ⟨w.heap.size, 1, none⟩ = some (.string x.num) ∧ w'.cell? ⟨w.heap.size, 2, none⟩ = some (.string x.den) ∧ w'.cell? ⟨w.heap.size + 1, 0, none⟩ = some (.bool y.neg) ∧ w'.cell? ⟨w.heap.size + 1, 1, none⟩ = some (.string y.num) ∧ w'.cell? ⟨w.heap.size + 1, 2, none⟩ = some (.string y.den) ∧ w'.cell? ⟨g, 0, none⟩ = some (.bool m.neg) ∧ w'.cell? ⟨g, 1, none⟩ = some (.string m.num) ∧ w'.cell? ⟨g, 2, none⟩ = some (.string m.den)) (first | exact ⟨b1.c0, b1.c1, b1.c2, b2.c0, b2.c1, b2.c2, b5.c0, b5.c1, b5.c2⟩ | exact ⟨by simp [go_sem, b1.c0], by simp [go_sem, b1.c1], by simp [go_sem, b1.c2], by simp [go_sem, b2.c0], by simp [go_sem, b2.c1], by simp [go_sem, b2.c2], by simp [go_sem, b5.c0], by simp [go_sem, b5.c1], by simp [go_sem, b5.c2]⟩) (first
                      | (go_at_call 18
                         (with_reducible refine (SignN y q 24 _ ny (by omega)).mono ?_)
                         rintro e w1 ⟨rfl, c1⟩
                         replace b1 := b1.keep c1 (by simp)
                         replace b2 := b2.keep c1 (by simp)
                         replace b3 := b3.keep c1 (by simp)
                         replace b5 := b5.keep c1 (by simp)
                         replace hch := hch.then c1
                         rw [HG.out]
                         clear c1)
                      | (go_at_call 25
                         (with_reducible refine (rFixN x p 24 _ nx (by omega)).mono ?_)
                         rintro e w1 ⟨t, rfl, ht, c1⟩
                         replace b1 := b1.keep c1 (by simp)
                         replace b2 := b2.keep c1 (by simp)
                         replace b3 := b3.keep c1 (by simp)
                         replace b5 := b5.keep c1 (by simp)
                         replace hch := hch.then c1
                         obtain rfl := vm.unique ht
                         clear c1))
                  all_goals
                    go_wp2_with fail
                    refine (awake2_any _).mono ?_
                    rintro e w3 ⟨rfl, c1⟩
                    replace hch := hch.then c1
                    go_wp2_with fail
                    go_ret
                    exact ⟨ret_eq (by simp), hch⟩

end Go.Proofs.YtlhmimbooampdaaGreatDoor
