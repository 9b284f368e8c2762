/-
  Law: Parse.
-/
import Derived.Test.YtlhmimbooampdaaDoorLA1
import Derived.Test.YtlhmimbooampdaaDoorV18
namespace Go.Proofs.YtlhmimbooampdaaDoor
open Go.RowKit Nd
set_option maxRecDepth 20000 in
set_option maxHeartbeats 4000000 in
theorem lparse2_any (s : ByteArray) (w : World) :
    Calls Tryd.prog 4 #[.string s] w fun e w' => e = .returned (.bool true) ∧ Chg [] w w' := by
  have hch : Chg [] w w := Chg.refl _ _
  by_cases hl : 200 < s.size
  · go_enter Tryd.func4, Tryd.ntmps4
    go_wp2_with fail
    refine (awake2_any _).mono ?_
    rintro e w1 ⟨rfl, c1⟩
    replace hch := hch.then c1
    clear c1
    go_wp2_with fail
    go_ret
    exact ⟨rfl, hch⟩
  · have hl2 : s.size ≤ 200 := by omega
    obtain ⟨r, HR⟩ := name_it (parseP s.data.toList).1
    obtain ⟨q, HQ⟩ := name_it (parseP s.data.toList).2
    go_enter Tryd.func4, Tryd.ntmps4
    go_wp2_with fail
    refine (Parse_any s _ (by omega)).mono ?_
    rintro e w1 ⟨z, rfl, hz, c1⟩
    rw [HR.out]
    rw [HQ.out] at hz
    replace hch := hch.then c1
    clear c1
    have b1 := Blk3.alloc w1 (.bool z.neg) (.string z.num) (.string z.den) 23
    replace hch := hch.then ((Chg.refl [] _).alloc (.cells #[.bool z.neg, .string z.num, .string z.den] 23))
    obtain ⟨gb1, Gb1⟩ := name_it w1.heap.size
    rw [Gb1.out] at b1
    have hgb1 := Gb1.out
    obtain ⟨wb1, HWb1⟩ := name_it (w1.alloc (.cells #[.bool z.neg, .string z.num, .string z.den] 23))
    rw [HWb1.out] at b1 hch
    have b1c0 := b1.c0
    have b1c1 := b1.c1
    have b1c2 := b1.c2
    have b1f0 := b1.f0
    have b1f1 := b1.f1
    have b1f2 := b1.f2
    have b1l := b1.lt
    rw [← HWb1.out] at b1c0 b1f0 b1c1 b1f1 b1c2 b1f2 b1l
    go_wp2_with fail
    refine (rParse_any s _ (by omega)).mono ?_
    rintro e w1 ⟨y, rfl, hy, c1⟩
    rw [HR.out]
    rw [HQ.out] at hy
    obtain rfl := hz.unique hy
    rw [HWb1.out] at c1
    clear b1c0 b1f0 b1c1 b1f1 b1c2 b1f2 b1l
    replace b1 := b1.keep c1 (by simp)
    replace hch := hch.then c1
    clear c1
    have b2 := Blk3.alloc w1 (.bool z.neg) (.string z.num) (.string z.den) 23
    replace b1 := b1.keep ((Chg.refl [] _).alloc (.cells #[.bool z.neg, .string z.num, .string z.den] 23)) (by simp)
    replace hch := hch.then ((Chg.refl [] _).alloc (.cells #[.bool z.neg, .string z.num, .string z.den] 23))
    obtain ⟨gb2, Gb2⟩ := name_it w1.heap.size
    rw [Gb2.out] at b2
    have hgb2 := Gb2.out
    obtain ⟨wb2, HWb2⟩ := name_it (w1.alloc (.cells #[.bool z.neg, .string z.num, .string z.den] 23))
    rw [HWb2.out] at b1 b2 hch
    go_upto_region 5 with fail
    rw [HWb2.out]
    have b1c0 := b1.c0
    have b1c1 := b1.c1
    have b1c2 := b1.c2
    have b1f0 := b1.f0
    have b1f1 := b1.f1
    have b1f2 := b1.f2
    have b1l := b1.lt
    have b2c0 := b2.c0
    have b2c1 := b2.c1
    have b2c2 := b2.c2
    have b2f0 := b2.f0
    have b2f1 := b2.f1
    have b2f2 := b2.f2
    have b2l := b2.lt
    go_wp2_with fail
    clear b1c0 b1f0 b1c1 b1f1 b1c2 b1f2 b1l b2c0 b2f0 b2c1 b2f1 b2c2 b2f2 b2l
    refine (awake2_any _).mono ?_
    rintro e w3 ⟨rfl, c1⟩
    replace b1 := b1.keep c1 (by simp)
    replace b2 := b2.keep c1 (by simp)
    replace hch := hch.then c1
    clear c1
    have b1c0 := b1.c0
    have b1c1 := b1.c1
    have b1c2 := b1.c2
    have b1f0 := b1.f0
    have b1f1 := b1.f1
    have b1f2 := b1.f2
    have b1l := b1.lt
    have b2c0 := b2.c0
    have b2c1 := b2.c1
    have b2c2 := b2.c2
    have b2f0 := b2.f0
    have b2f1 := b2.f1
    have b2f2 := b2.f2
    have b2l := b2.lt
    go_wp2_with fail
    go_ret
    exact ⟨ret_eq (by simp), hch⟩

end Go.Proofs.YtlhmimbooampdaaDoor
