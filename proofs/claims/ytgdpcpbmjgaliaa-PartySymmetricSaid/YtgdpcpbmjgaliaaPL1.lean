/-
  Party: awake.
-/
import Derived.Test.YtgdpcpbmjgaliaaPL0
namespace Go.Proofs.Ytgdpcpbmjgaliaa
open Go.RowKit Nd

theorem SStk.three (w : World) (x y z : Q3) : SStk (w.alloc (.cells #[.int .i64 0, .int .i64 1, .bool x.neg, .string x.num, .string x.den, .int .i64 0, .int .i64 2, .bool y.neg, .string y.num, .string y.den, .int .i64 1, .int .i64 2, .bool z.neg, .string z.num, .string z.den] 36)) (some ⟨w.heap.size, 0, none⟩) (awS x y z) := by
  intro _
  refine ⟨w.heap.size, 0, rfl, by simp, fun j hj => ?_⟩
  have hj3 : j < 3 := hj
  rcases (by omega : j = 0 ∨ j = 1 ∨ j = 2) with rfl | rfl | rfl <;> constructor <;> simp [awS]
theorem SZn.three (w : World) : SZn (w.alloc (.cells #[.int .i64 1, .int .i64 2, .int .i64 2] 3)) (some ⟨w.heap.size, 0, none⟩) awK := by
  intro _
  refine ⟨w.heap.size, 0, rfl, by simp, fun j hj => ?_⟩
  have hj3 : j < 3 := hj
  rcases (by omega : j = 0 ∨ j = 1 ∨ j = 2) with rfl | rfl | rfl <;> constructor <;> simp [awK]

set_option maxRecDepth 20000 in
set_option maxHeartbeats 4000000 in
theorem awake8_any (w : World) : Calls Try.prog 13 #[] w fun e w' => e = .returned (.bool true) ∧ Chg [] w w' := by
  have q6 : sq (fsg 6 10) (6 : Int).natAbs (10 : Int).natAbs = 6 / 10 := by decide +kernel
  have q3 : sq (fsg 3 10) (3 : Int).natAbs (10 : Int).natAbs = 3 / 10 := by decide +kernel
  have HR6 := Lib.hid (fun w => ratio_any 6 10 w (by omega) (by omega) (by omega) (by omega))
  have HR3 := Lib.hid (fun w => ratio_any 3 10 w (by omega) (by omega) (by omega) (by omega))
  rw [q6] at HR6
  rw [q3] at HR3
  clear q6 q3
  have hk := SZn.three w
  have c1 : Chg [] w (w.alloc (.cells #[.int .i64 1, .int .i64 2, .int .i64 2] 3)) := (Chg.refl _ _).alloc _
  have b1 := Blk3.alloc (w.alloc (.cells #[.int .i64 1, .int .i64 2, .int .i64 2] 3)) (.slice (some ⟨w.heap.size, 0, none⟩) 3 3) (.slice none 0 0) (.slice none 0 0) 26
  have c2 : Chg [] (w.alloc (.cells #[.int .i64 1, .int .i64 2, .int .i64 2] 3)) ((w.alloc (.cells #[.int .i64 1, .int .i64 2, .int .i64 2] 3)).alloc (.cells #[.slice (some ⟨w.heap.size, 0, none⟩) 3 3, .slice none 0 0, .slice none 0 0] 26)) := (Chg.refl _ _).alloc _
  rw [World.size_alloc] at b1
  replace hk := hk.keep0 c2
  have hch := c1.then c2
  clear c1 c2
  go_enter Try.func13, Try.ntmps13
  go_wp2_with fail
  obtain ⟨w0, HW0⟩ := name_it ((w.alloc (.cells #[.int .i64 1, .int .i64 2, .int .i64 2] 3)).alloc (.cells #[.slice (some ⟨w.heap.size, 0, none⟩) 3 3, .slice none 0 0, .slice none 0 0] 26))
  rw [HW0.out] at hk b1 hch ⊢
  obtain ⟨g0, HG0⟩ := name_it w.heap.size
  rw [HG0.out] at hk b1 ⊢
  have hg0 : w.heap.size ≤ g0 := Nat.le_of_eq HG0.out
  clear HW0
  refine (HR6.out _).mono ?_
  rintro e w1 ⟨x, rfl, hx, c1⟩
  have HX := Lib.hid hx
  replace hk := hk.keep0 c1
  replace b1 := b1.keep0 c1
  replace hch := hch.then c1
  clear c1 hx
  go_wp2_with fail
  refine (HR3.out _).mono ?_
  rintro e w2 ⟨y, rfl, hy, c1⟩
  have HY := Lib.hid hy
  replace hk := hk.keep0 c1
  replace b1 := b1.keep0 c1
  replace hch := hch.then c1
  clear c1 hy
  go_wp2_with fail
  refine (HR3.out _).mono ?_
  rintro e w3 ⟨z, rfl, hz, c1⟩
  have HZ := Lib.hid hz
  replace hk := hk.keep0 c1
  replace b1 := b1.keep0 c1
  replace hch := hch.then c1
  clear c1 hz
  have hsk := SStk.three w3 x y z
  have hb3 := b1.lt
  obtain ⟨o3, HO3⟩ := name_it (Obj.cells #[.int .i64 0, .int .i64 1, .bool x.neg, .string x.num, .string x.den, .int .i64 0, .int .i64 2, .bool y.neg, .string y.num, .string y.den, .int .i64 1, .int .i64 2, .bool z.neg, .string z.num, .string z.den] 36)
  have c4 : Chg [] w3 (w3.alloc o3) := (Chg.refl _ _).alloc _
  rw [HO3.out] at hsk
  replace hk := hk.keep0 c4
  replace b1 := b1.keep0 c4
  replace hch := hch.then c4
  clear c4
  have hcn : Chg [g0 + 1] (w3.alloc o3) ((w3.alloc o3).setCell ⟨g0 + 1, 1, none⟩ (.slice (some ⟨w3.heap.size, 0, none⟩) 3 3)) := (Chg.refl [g0 + 1] _).setCell (p := ⟨g0 + 1, 1, none⟩) (.inl (by simp)) _
  have hkS := hk.keep hcn (by intro a ha; cases ha; simp)
  have hsS := hsk.keep hcn (by intro a ha; cases ha; simp; omega)
  have e0 : ((w3.alloc o3).setCell ⟨g0 + 1, 1, none⟩ (.slice (some ⟨w3.heap.size, 0, none⟩) 3 3)).cell? ⟨g0 + 1, 0, none⟩ = some (.slice (some ⟨g0, 0, none⟩) 3 3) := by simp [go_sem, b1.c0]
  have e1 : ((w3.alloc o3).setCell ⟨g0 + 1, 1, none⟩ (.slice (some ⟨w3.heap.size, 0, none⟩) 3 3)).cell? ⟨g0 + 1, 1, none⟩ = some (.slice (some ⟨w3.heap.size, 0, none⟩) 3 3) := by simp [go_sem, b1.c1]
  have e2 : ((w3.alloc o3).setCell ⟨g0 + 1, 1, none⟩ (.slice (some ⟨w3.heap.size, 0, none⟩) 3 3)).cell? ⟨g0 + 1, 2, none⟩ = some (.slice none 0 0) := by simp [go_sem, b1.c2]
  have hchS := hch.setCell (p := ⟨g0 + 1, 1, none⟩) (.inr (show w.heap.size ≤ g0 + 1 by omega)) (.slice (some ⟨w3.heap.size, 0, none⟩) 3 3)
  have b1c0 := b1.c0
  have b1c1 := b1.c1
  have b1c2 := b1.c2
  have b1f1 := b1.f1
  have hp : PV.At ⟨awK, awS x y z, [], 3, 3, 0, some ⟨g0, 0, none⟩, some ⟨w3.heap.size, 0, none⟩, none, 3, 3, 0⟩ ((w3.alloc o3).setCell ⟨g0 + 1, 1, none⟩ (.slice (some ⟨w3.heap.size, 0, none⟩) 3 3)) :=
    ⟨rfl, rfl, rfl, show 3 ≤ 9223372036854775807 by decide, show 3 ≤ 9223372036854775807 by decide, show 0 ≤ 9223372036854775807 by decide, hkS, hsS, STi.nil _ _⟩
  have hck := aw_ck HX.out.enc.rat HY.out.enc.rat HZ.out.enc.rat
  have hcf : cfE ⟨awK, awS x y z, [], 3, 3, 0, some ⟨g0, 0, none⟩, some ⟨w3.heap.size, 0, none⟩, none, 3, 3, 0⟩ [⟨0⟩] = 0 := by
    unfold cfE
    rw [if_neg (by simp [hck])]
    rfl
  have HCT := Lib.hid (fun w h => pcontrolled_any ⟨awK, awS x y z, [], 3, 3, 0, some ⟨g0, 0, none⟩, some ⟨w3.heap.size, 0, none⟩, none, 3, 3, 0⟩ 8 0 awX w h (aw_fit HX.out HY.out HZ.out) (fun _ => aw_least HX.out.enc.rat HY.out.enc.rat HZ.out.enc.rat))
  rw [hcf] at HCT
  have hix : ctlL 0 awX 3 = [⟨1⟩, ⟨2⟩] := rfl
  dsimp only at HCT
  rw [hix] at HCT
  rw [← HO3.out] at hp hchS e0 e1 e2 b1c0 b1c1 b1c2 b1f1
  clear hk hkS hsk hsS hcn hck hcf hix hch b1 HO3 hb3
  go_wp2_with fail
  refine (HCT.out _ hp).mono ?_
  rintro e w4 ⟨v, rfl, hown, hob, c1⟩
  rcases hown.form with ⟨-, h⟩ | ⟨g, cap, rfl, hlt, hcap, hcm, hs⟩
  · cases h
  · have s0 := (hs.at_ (j := 0) (by decide)).c0
    have s1 := (hs.at_ (j := 1) (by decide)).c0
    have t0 : w4.cell? ⟨g, 0, none⟩ = some (.int .i64 1) := s0
    have t1 : w4.cell? ⟨g, 1, none⟩ = some (.int .i64 2) := s1
    have hl : [(⟨1⟩ : Zn), ⟨2⟩].length = 2 := rfl
    rw [hl]
    replace hchS := hchS.then c1
    clear s0 s1 hs hown hob c1 hl e0 e1 e2 b1c0 b1c1 b1c2 b1f1 hp
    go_wp2_with fail
    go_ret
    exact ⟨rfl, hchS⟩
end Go.Proofs.Ytgdpcpbmjgaliaa
