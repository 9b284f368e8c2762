/-
  Law: Floor.
-/
import Derived.Test.YtcliibhooeffdaaGreatDoorLA5
import Derived.Test.YtcliibhooeffdaaGreatDoorV13
namespace Go.Proofs.YtcliibhooeffdaaGreatDoor
open Go.RowKit Nd
theorem flo_int_iff (p : Rat) : (flo p).den = 1 := by unfold Nd.flo; exact Rat.den_intCast _
theorem flo_sub (p : Rat) : 0 ≤ p - flo p ∧ p - flo p < 1 := by
  unfold Nd.flo
  have h1 := Rat.floor_le p
  have h2 := Rat.lt_floor_add_one p
  constructor <;> grind
theorem sg_flo (p : Rat) : sg (p - flo p) = 0 ∨ sg (p - flo p) = 1 := by
  have := (flo_sub p).1
  unfold sg
  rw [if_neg (by grind)]
  split <;> simp
theorem qo_flo (p : Rat) : qo (p - flo p) ((1 : Int) : Rat) = -1 := qo_lt (by have := (flo_sub p).2; simpa using this)
theorem Val.den0 {x : Q3} {q : Rat} {k : Nat} (h : Val x q k) (h1 : q.den = 1) : x.den = ⟨#[]⟩ := by
  have := h.enc.den
  rw [if_pos h1] at this
  exact Is_zero.1 this

set_option maxRecDepth 20000 in
set_option maxHeartbeats 2000000 in
theorem lfloor_any (x : Q3) (w : World) :
    Calls Tryz.prog 8 #[.agg #[.bool x.neg, .string x.num, .string x.den]] w fun e w' => e = .returned (.bool true) ∧ Chg [] w w' := by
  have hch : Chg [] w (((w).alloc (.cells #[.bool x.neg, .string x.num, .string x.den] 23)).alloc (.cells #[.bool x.neg, .string x.num, .string x.den] 23)) := (((Chg.refl _ _).alloc _).alloc _)
  have b1 := Blk3.alloc (w) (.bool x.neg) (.string x.num) (.string x.den) 23
  replace b1 := b1.keep ((Chg.refl [] _).alloc (.cells #[.bool x.neg, .string x.num, .string x.den] 23)) (by simp)
  have hr := Rats.one ((w).alloc (.cells #[.bool x.neg, .string x.num, .string x.den] 23)) x 23
  simp only [World.size_alloc] at hr b1
  cases hf : fewQ [x]
  · have HF := Lib.hid hf
    clear hf
    go_enter Tryz.func8, Tryz.ntmps8
    go_wp2_with fail
    refine (few2_any [x] (w.heap.size + 1) 1 _ hr (by simp)).mono ?_
    rintro e w1 ⟨rfl, c1⟩
    rw [HF.out]
    replace hch := hch.then c1
    clear c1
    go_wp2_with fail
    refine (awake2_any _).mono ?_
    rintro e w2 ⟨rfl, c1⟩
    replace hch := hch.then c1
    clear c1
    go_wp2_with fail
    go_ret
    exact ⟨rfl, hch⟩
  · have hss : x.num.size ≤ 24 ∧ x.den.size ≤ 24 := by simpa [fewQ, shortQ] using hf
    have HF := Lib.hid hf
    obtain ⟨sx1, sx2⟩ := hss
    obtain ⟨p, Hp⟩ := name_it (ratOf x)
    have nx : Num x p 24 := ⟨Hp.out, ⟨sx1, sx2⟩, by omega⟩
    clear hf sx1 sx2 Hp
    go_enter Tryz.func8, Tryz.ntmps8
    go_wp2_with fail
    refine (few2_any [x] (w.heap.size + 1) 1 _ hr (by simp)).mono ?_
    rintro e w1 ⟨rfl, c1⟩
    rw [HF.out]
    replace b1 := b1.keep c1 (by simp)
    replace hch := hch.then c1
    clear c1 hr HF
    have b1c0 := b1.c0
    have b1c1 := b1.c1
    have b1c2 := b1.c2
    have b1f0 := b1.f0
    have b1f1 := b1.f1
    have b1f2 := b1.f2
    have b1l := b1.lt
    go_wp2_with fail
    clear b1c0 b1f0 b1c1 b1f1 b1c2 b1f2 b1l
    obtain ⟨w0, HW0⟩ := name_it w1
    rw [HW0.out] at b1 hch ⊢
    have hsg := sg_flo p
    obtain ⟨sv, HSV⟩ := name_it (sg (p - flo p))
    rw [HSV.out] at hsg
    have HQV := Lib.hid (qo_flo p)
    refine (FloorN x p 24 _ nx (by omega)).mono ?_
    rintro e w1 ⟨z, rfl, hz, c1⟩
    replace b1 := b1.keep c1 (by simp)
    replace hch := hch.then c1
    clear c1
    have hd0 := hz.den0 (flo_int_iff p)
    obtain ⟨zn, zN, zD⟩ := z
    simp only at hd0
    subst hd0
    have b2 := Blk3.alloc w1 (.bool (⟨zn, zN, ⟨#[]⟩⟩ : Q3).neg) (.string (⟨zn, zN, ⟨#[]⟩⟩ : Q3).num) (.string (⟨zn, zN, ⟨#[]⟩⟩ : Q3).den) 23
    replace b1 := b1.keep ((Chg.refl [] _).alloc (.cells #[.bool (⟨zn, zN, ⟨#[]⟩⟩ : Q3).neg, .string (⟨zn, zN, ⟨#[]⟩⟩ : Q3).num, .string (⟨zn, zN, ⟨#[]⟩⟩ : Q3).den] 23)) (by simp)
    replace hch := hch.then ((Chg.refl [] _).alloc (.cells #[.bool (⟨zn, zN, ⟨#[]⟩⟩ : Q3).neg, .string (⟨zn, zN, ⟨#[]⟩⟩ : Q3).num, .string (⟨zn, zN, ⟨#[]⟩⟩ : Q3).den] 23))
    obtain ⟨gb2, Gb2⟩ := name_it w1.heap.size
    rw [Gb2.out] at b2
    have hgb2 := Gb2.out
    obtain ⟨wb2, HWb2⟩ := name_it (w1.alloc (.cells #[.bool (⟨zn, zN, ⟨#[]⟩⟩ : Q3).neg, .string (⟨zn, zN, ⟨#[]⟩⟩ : Q3).num, .string (⟨zn, zN, ⟨#[]⟩⟩ : Q3).den] 23))
    rw [HWb2.out] at b1 b2 hch
    simp only at b2
    have nz := hz.num
    have b1c0 := b1.c0
    have b1c1 := b1.c1
    have b1c2 := b1.c2
    have b1f0 := b1.f0
    have b1f1 := b1.f1
    have b1f2 := b1.f2
    have b1l := b1.lt
    have b2c0 := b2.c0
    have b2c1 := b2.c1
    have b2c2 := b2.c2
    have b2f0 := b2.f0
    have b2f1 := b2.f1
    have b2f2 := b2.f2
    have b2l := b2.lt
    rw [← HWb2.out] at b1c0 b1f0 b1c1 b1f1 b1c2 b1f2 b2c0 b2f0 b2c1 b2f1 b2c2 b2f2 b1l b2l
    go_wp2_with fail
    clear b1c0 b1f0 b1c1 b1f1 b1c2 b1f2 b1l b2c0 b2f0 b2c1 b2f1 b2c2 b2f2 b2l
    refine (SubtractN x ⟨zn, zN, ⟨#[]⟩⟩ p (flo p) 24 25 _ nx nz (by omega)).mono ?_
    rintro e w1 ⟨u, rfl, hu, c1⟩
    rw [HWb2.out] at c1
    replace b1 := b1.keep c1 (by simp)
    replace b2 := b2.keep c1 (by simp)
    replace hch := hch.then c1
    clear c1
    have b3 := Blk3.alloc w1 (.bool u.neg) (.string u.num) (.string u.den) 23
    replace b1 := b1.keep ((Chg.refl [] _).alloc (.cells #[.bool u.neg, .string u.num, .string u.den] 23)) (by simp)
    replace b2 := b2.keep ((Chg.refl [] _).alloc (.cells #[.bool u.neg, .string u.num, .string u.den] 23)) (by simp)
    replace hch := hch.then ((Chg.refl [] _).alloc (.cells #[.bool u.neg, .string u.num, .string u.den] 23))
    obtain ⟨gb3, Gb3⟩ := name_it w1.heap.size
    rw [Gb3.out] at b3
    have hgb3 := Gb3.out
    obtain ⟨wb3, HWb3⟩ := name_it (w1.alloc (.cells #[.bool u.neg, .string u.num, .string u.den] 23))
    rw [HWb3.out] at b1 b2 b3 hch
    have b1c0 := b1.c0
    have b1c1 := b1.c1
    have b1c2 := b1.c2
    have b1f0 := b1.f0
    have b1f1 := b1.f1
    have b1f2 := b1.f2
    have b1l := b1.lt
    have b2c0 := b2.c0
    have b2c1 := b2.c1
    have b2c2 := b2.c2
    have b2f0 := b2.f0
    have b2f1 := b2.f1
    have b2f2 := b2.f2
    have b2l := b2.lt
    have b3c0 := b3.c0
    have b3c1 := b3.c1
    have b3c2 := b3.c2
    have b3f0 := b3.f0
    have b3f1 := b3.f1
    have b3f2 := b3.f2
    have b3l := b3.lt
    rw [← HWb3.out] at b1c0 b1f0 b1c1 b1f1 b1c2 b1f2 b2c0 b2f0 b2c1 b2f1 b2c2 b2f2 b3c0 b3f0 b3c1 b3f1 b3c2 b3f2 b1l b2l b3l
    go_wp2_with fail
    clear b1c0 b1f0 b1c1 b1f1 b1c2 b1f2 b1l b2c0 b2f0 b2c1 b2f1 b2c2 b2f2 b2l b3c0 b3f0 b3c1 b3f1 b3c2 b3f2 b3l
    rw [HWb3.out]
    replace b1 := b1.keep ((Chg.refl [] _).drew) (by simp)
    replace b2 := b2.keep ((Chg.refl [] _).drew) (by simp)
    replace b3 := b3.keep ((Chg.refl [] _).drew) (by simp)
    replace hch := hch.drew
    rcases hsg with rfl | rfl
    all_goals
      go_region_held3 (fun w' => w'.cell? ⟨w.heap.size, 0, none⟩ = some (.bool x.neg) ∧ w'.cell? ⟨w.heap.size, 1, none⟩ = some (.string x.num) ∧ w'.cell? ⟨w.heap.size, 2, none⟩ = some (.string x.den) ∧ w'.cell? ⟨gb2, 0, none⟩ = some (.bool zn) ∧ w'.cell? ⟨gb2, 1, none⟩ = some (.string zN) ∧ w'.cell? ⟨gb2, 2, none⟩ = some (.string ⟨#[]⟩) ∧ w'.cell? ⟨gb3, 0, none⟩ = some (.bool u.neg) ∧ w'.cell? ⟨gb3, 1, none⟩ = some (.string u.num) ∧ w'.cell? ⟨gb3, 2, none⟩ = some (.string u.den)) (first | exact ⟨b1.c0, b1.c1, b1.c2, b2.c0, b2.c1, b2.c2, b3.c0, b3.c1, b3.c2⟩ | exact ⟨by simp [go_sem, b1.c0], by simp [go_sem, b1.c1], by simp [go_sem, b1.c2], by simp [go_sem, b2.c0], by simp [go_sem, b2.c1], by simp [go_sem, b2.c2], by simp [go_sem, b3.c0], by simp [go_sem, b3.c1], by simp [go_sem, b3.c2]⟩) (first
          | (go_at_call 16
             (with_reducible refine (awake2_any _).mono ?_)
             rintro e w1 ⟨rfl, c1⟩
             replace b1 := b1.keep c1 (by simp)
             replace b2 := b2.keep c1 (by simp)
             replace b3 := b3.keep c1 (by simp)
             replace hch := hch.then c1
             clear c1)
          | (go_at_call 43
             (with_reducible refine (rFloorN x p 24 _ nx (by omega)).mono ?_)
             rintro e w1 ⟨y, rfl, hy, c1⟩
             replace b1 := b1.keep c1 (by simp)
             replace b2 := b2.keep c1 (by simp)
             replace b3 := b3.keep c1 (by simp)
             replace hch := hch.then c1
             obtain rfl := hz.enc.unique hy.enc
             clear c1)
          | (go_at_call 20
             (with_reducible refine (SignN u (p - flo p) _ _ hu.num (by omega)).mono ?_)
             rintro e w1 ⟨rfl, c1⟩
             replace b1 := b1.keep c1 (by simp)
             replace b2 := b2.keep c1 (by simp)
             replace b3 := b3.keep c1 (by simp)
             replace hch := hch.then c1
             rw [HSV.out]
             clear c1)
          | (go_at_call 19
             (with_reducible refine (IntN 1 _ (by omega) (by omega)).mono ?_)
             rintro e w1 ⟨v, rfl, hv, c1⟩
             replace b1 := b1.keep c1 (by simp)
             replace b2 := b2.keep c1 (by simp)
             replace b3 := b3.keep c1 (by simp)
             replace hch := hch.then c1
             clear c1)
          | (go_at_call 22
             (with_reducible refine (CompareN u v _ _ _ 8 _ hu.num hv.num (by omega)).mono ?_)
             rintro e w1 ⟨rfl, c1⟩
             replace b1 := b1.keep c1 (by simp)
             replace b2 := b2.keep c1 (by simp)
             replace b3 := b3.keep c1 (by simp)
             replace hch := hch.then c1
             rw [HQV.out]
             clear c1))
      all_goals
        go_wp2_with fail
        go_ret
        exact ⟨ret_eq (by simp), hch⟩

end Go.Proofs.YtcliibhooeffdaaGreatDoor
