/-
  Walks of package rational: awake, few of the laws.
-/
import Derived.Test.YtjmonodjnljhdaaDoorQ11
namespace Go.Proofs.YtjmonodjnljhdaaDoor
open Go.RowKit Nd

theorem aw1 : fmtL (sq (fsg 6 (-4)) (6 : Int).natAbs (-4 : Int).natAbs) = [45, 51, 47, 50] := by decide +kernel
theorem aw2 : fmtL (flo (sq (fsg 6 (-4)) (6 : Int).natAbs (-4 : Int).natAbs)) = [45, 50] := by decide +kernel
theorem aw3 : (parseP [51, 46, 50, 53, 48]).1 = 0 := by decide +kernel
theorem aw4 : fmtL (parseP [51, 46, 50, 53, 48]).2 = [49, 51, 47, 52] := by decide +kernel
theorem aw5 : decimalL (sq (fsg (-2) 3) (-2 : Int).natAbs (3 : Int).natAbs) (clampP 2) = [45, 48, 46, 54, 54] := by decide +kernel
theorem bdw1 : Bd 8 (sq (fsg 6 (-4)) (6 : Int).natAbs (-4 : Int).natAbs) := ⟨by decide +kernel, by decide +kernel⟩
theorem bdw2 : Bd 8 (flo (sq (fsg 6 (-4)) (6 : Int).natAbs (-4 : Int).natAbs)) := ⟨by decide +kernel, by decide +kernel⟩
theorem bdw3 : Bd 8 (parseP [51, 46, 50, 53, 48]).2 := ⟨by decide +kernel, by decide +kernel⟩
theorem bdw4 : Bd 8 (sq (fsg (-2) 3) (-2 : Int).natAbs (3 : Int).natAbs) := ⟨by decide +kernel, by decide +kernel⟩
theorem str_lit {s : ByteArray} {l : List UInt8} (h : s.data.toList = l) : s = ⟨l.toArray⟩ := by
  apply ByteArray.ext
  exact Array.toList_inj.1 (by rw [h])

set_option maxRecDepth 20000 in
set_option maxHeartbeats 2000000 in
theorem awake2_any (w : World) : Calls Tryd.prog 16 #[] w fun e w' => e = .returned (.bool true) ∧ Chg [] w w' := by
  have hch : Chg [] w w := Chg.refl _ _
  obtain ⟨q1, Q1⟩ := name_it (sq (fsg 6 (-4)) (6 : Int).natAbs (-4 : Int).natAbs)
  obtain ⟨q2, Q2⟩ := name_it (parseP [51, 46, 50, 53, 48]).2
  obtain ⟨q3, Q3'⟩ := name_it (sq (fsg (-2) 3) (-2 : Int).natAbs (3 : Int).natAbs)
  have v1 : Hid (fmtL q1 = [45, 51, 47, 50] ∧ fmtL (flo q1) = [45, 50] ∧ Bd 8 q1 ∧ Bd 8 (flo q1)) := by show _ ∧ _; rw [← Q1.out]; exact ⟨aw1, aw2, bdw1, bdw2⟩
  have v2 : Hid (fmtL q2 = [49, 51, 47, 52] ∧ Bd 8 q2) := by show _ ∧ _; rw [← Q2.out]; exact ⟨aw4, bdw3⟩
  have v3 : Hid (decimalL q3 (clampP 2) = [45, 48, 46, 54, 54] ∧ Bd 8 q3) := by show _ ∧ _; rw [← Q3'.out]; exact ⟨aw5, bdw4⟩
  go_enter Tryd.func16, Tryd.ntmps16
  go_wp2_with fail
  refine (Fraction_any 6 (-4) _ (by omega) (by omega) (by omega) (by omega) (by omega)).mono ?_
  rintro e w1 ⟨x1, rfl, hx, c1⟩
  rw [Q1.out] at hx
  have X1 := Lib.hid hx
  replace hch := hch.then c1
  clear hx c1
  have b1 := Blk3.alloc w1 (.bool x1.neg) (.string x1.num) (.string x1.den) 29
  replace hch := hch.then ((Chg.refl [] w1).alloc (.cells #[.bool x1.neg, .string x1.num, .string x1.den] 29))
  obtain ⟨g1, G1⟩ := name_it w1.heap.size
  rw [G1.out] at b1
  have hg1 := G1.out
  go_wp2_with fail
  refine (Parse_any ⟨#[51, 46, 50, 53, 48]⟩ _ (by decide)).mono ?_
  rintro e w1 ⟨x2, rfl, hx, c1⟩
  have hp3 : (parseP (⟨#[51, 46, 50, 53, 48]⟩ : ByteArray).data.toList).1 = 0 := aw3
  rw [hp3]
  clear hp3
  change Enc x2 (parseP [51, 46, 50, 53, 48]).2 at hx
  rw [Q2.out] at hx
  have X2 := Lib.hid hx
  replace hch := hch.then c1
  replace b1 := b1.keep c1 (by simp)
  clear hx c1
  have b2 := Blk3.alloc w1 (.bool x2.neg) (.string x2.num) (.string x2.den) 29
  replace b1 := b1.keep ((Chg.refl [] w1).alloc (.cells #[.bool x2.neg, .string x2.num, .string x2.den] 29)) (by simp)
  replace hch := hch.then ((Chg.refl [] w1).alloc (.cells #[.bool x2.neg, .string x2.num, .string x2.den] 29))
  obtain ⟨g2, G2⟩ := name_it w1.heap.size
  rw [G2.out] at b2
  have hg2 := G2.out
  go_wp2_with fail
  refine (Fraction_any (-2) 3 _ (by omega) (by omega) (by omega) (by omega) (by omega)).mono ?_
  rintro e w1 ⟨x3, rfl, hx, c1⟩
  rw [Q3'.out] at hx
  have X3 := Lib.hid hx
  replace hch := hch.then c1
  replace b1 := b1.keep c1 (by simp)
  replace b2 := b2.keep c1 (by simp)
  clear hx c1
  have b3 := Blk3.alloc w1 (.bool x3.neg) (.string x3.num) (.string x3.den) 29
  replace b1 := b1.keep ((Chg.refl [] w1).alloc (.cells #[.bool x3.neg, .string x3.num, .string x3.den] 29)) (by simp)
  replace b2 := b2.keep ((Chg.refl [] w1).alloc (.cells #[.bool x3.neg, .string x3.num, .string x3.den] 29)) (by simp)
  replace hch := hch.then ((Chg.refl [] w1).alloc (.cells #[.bool x3.neg, .string x3.num, .string x3.den] 29))
  obtain ⟨g3, G3⟩ := name_it w1.heap.size
  rw [G3.out] at b3
  have hg3 := G3.out
  go_upto_region 4 with fail
  obtain ⟨w0, HW0⟩ := name_it (w1.alloc (.cells #[.bool x3.neg, .string x3.num, .string x3.den] 29))
  rw [HW0.out] at b1 b2 b3 hch ⊢
  have b1c0 := b1.c0
  have b1c1 := b1.c1
  have b1c2 := b1.c2
  have b2c0 := b2.c0
  have b2c1 := b2.c1
  have b2c2 := b2.c2
  have b3c0 := b3.c0
  have b3c1 := b3.c1
  have b3c2 := b3.c2
  go_wp2_with fail
  refine (Format_any x1 8 _ (X1.out.fits v1.out.2.2.1) (by omega) (by omega)).mono ?_
  rintro e w1 ⟨s, rfl, hs, c1⟩
  clear b1c0 b1c1 b1c2 b2c0 b2c1 b2c2 b3c0 b3c1 b3c2
  replace b1 := b1.keep c1 (by simp)
  replace b2 := b2.keep c1 (by simp)
  replace b3 := b3.keep c1 (by simp)
  replace hch := hch.then c1
  clear c1
  rw [X1.out.rat, v1.out.1] at hs
  obtain rfl : s = ⟨#[45, 51, 47, 50]⟩ := str_lit hs
  clear hs
  have b1c0 := b1.c0
  have b1c1 := b1.c1
  have b1c2 := b1.c2
  have b2c0 := b2.c0
  have b2c1 := b2.c1
  have b2c2 := b2.c2
  have b3c0 := b3.c0
  have b3c1 := b3.c1
  have b3c2 := b3.c2
  go_wp2_with fail
  refine (Floor_any x1 8 _ (X1.out.fits v1.out.2.2.1) (by omega) (by omega)).mono ?_
  rintro e w1 ⟨z, rfl, hz, c1⟩
  clear b1c0 b1c1 b1c2 b2c0 b2c1 b2c2 b3c0 b3c1 b3c2
  replace b1 := b1.keep c1 (by simp)
  replace b2 := b2.keep c1 (by simp)
  replace b3 := b3.keep c1 (by simp)
  replace hch := hch.then c1
  clear c1
  rw [X1.out.rat] at hz
  have Z := Lib.hid hz
  clear hz
  have b1c0 := b1.c0
  have b1c1 := b1.c1
  have b1c2 := b1.c2
  have b2c0 := b2.c0
  have b2c1 := b2.c1
  have b2c2 := b2.c2
  have b3c0 := b3.c0
  have b3c1 := b3.c1
  have b3c2 := b3.c2
  go_wp2_with fail
  refine (Format_any z 8 _ (Z.out.fits v1.out.2.2.2) (by omega) (by omega)).mono ?_
  rintro e w1 ⟨s, rfl, hs, c1⟩
  clear b1c0 b1c1 b1c2 b2c0 b2c1 b2c2 b3c0 b3c1 b3c2
  replace b1 := b1.keep c1 (by simp)
  replace b2 := b2.keep c1 (by simp)
  replace b3 := b3.keep c1 (by simp)
  replace hch := hch.then c1
  clear c1
  rw [Z.out.rat, v1.out.2.1] at hs
  obtain rfl : s = ⟨#[45, 50]⟩ := str_lit hs
  clear hs
  have b1c0 := b1.c0
  have b1c1 := b1.c1
  have b1c2 := b1.c2
  have b2c0 := b2.c0
  have b2c1 := b2.c1
  have b2c2 := b2.c2
  have b3c0 := b3.c0
  have b3c1 := b3.c1
  have b3c2 := b3.c2
  go_wp2_with fail
  refine (Format_any x2 8 _ (X2.out.fits v2.out.2) (by omega) (by omega)).mono ?_
  rintro e w1 ⟨s, rfl, hs, c1⟩
  clear b1c0 b1c1 b1c2 b2c0 b2c1 b2c2 b3c0 b3c1 b3c2
  replace b1 := b1.keep c1 (by simp)
  replace b2 := b2.keep c1 (by simp)
  replace b3 := b3.keep c1 (by simp)
  replace hch := hch.then c1
  clear c1
  rw [X2.out.rat, v2.out.1] at hs
  obtain rfl : s = ⟨#[49, 51, 47, 52]⟩ := str_lit hs
  clear hs
  have b1c0 := b1.c0
  have b1c1 := b1.c1
  have b1c2 := b1.c2
  have b2c0 := b2.c0
  have b2c1 := b2.c1
  have b2c2 := b2.c2
  have b3c0 := b3.c0
  have b3c1 := b3.c1
  have b3c2 := b3.c2
  go_wp2_with fail
  refine (Decimal_any x3 2 8 _ (X3.out.fits v3.out.2) (by omega) (by omega) (by omega) (by omega)).mono ?_
  rintro e w1 ⟨s, rfl, hs, c1⟩
  clear b1c0 b1c1 b1c2 b2c0 b2c1 b2c2 b3c0 b3c1 b3c2
  replace b1 := b1.keep c1 (by simp)
  replace b2 := b2.keep c1 (by simp)
  replace b3 := b3.keep c1 (by simp)
  replace hch := hch.then c1
  clear c1
  rw [X3.out.rat, v3.out.1] at hs
  obtain rfl : s = ⟨#[45, 48, 46, 54, 54]⟩ := str_lit hs
  clear hs
  have b1c0 := b1.c0
  have b1c1 := b1.c1
  have b1c2 := b1.c2
  have b2c0 := b2.c0
  have b2c1 := b2.c1
  have b2c2 := b2.c2
  have b3c0 := b3.c0
  have b3c1 := b3.c1
  have b3c2 := b3.c2
  go_wp2_with fail
  go_ret
  exact ⟨rfl, hch⟩

def shortQ (x : Q3) : Bool := decide (x.num.size ≤ 24) && decide (x.den.size ≤ 24)
def fewQ (l : List Q3) : Bool := l.all shortQ
def q0 : Q3 := ⟨false, ⟨#[]⟩, ⟨#[]⟩⟩

set_option maxRecDepth 20000 in
set_option maxHeartbeats 1000000 in
theorem Few_any (x : Q3) (w : World) : Calls Tryd.prog 77 #[.agg #[.bool x.neg, .string x.num, .string x.den]] w fun e w' => e = .returned (.bool (shortQ x)) ∧ Chg [] w w' := by
  have b1 := Blk3.alloc w (.bool x.neg) (.string x.num) (.string x.den) 29
  have hch : Chg [] w (w.alloc (.cells #[.bool x.neg, .string x.num, .string x.den] 29)) := (Chg.refl _ _).alloc _
  obtain ⟨r, HR⟩ := name_it (shortQ x)
  have hr := HR.out
  unfold shortQ at hr
  rw [HR.out]
  by_cases h1 : x.num.size ≤ 24 <;> by_cases h2 : x.den.size ≤ 24
  all_goals
    go_enter Tryd.func77, Tryd.ntmps77
    go_wp2_with fail
    go_ret
    exact ⟨ret_eq (by rw [← hr]; simp [h1, h2] <;> omega), hch⟩
end Go.Proofs.YtjmonodjnljhdaaDoor
