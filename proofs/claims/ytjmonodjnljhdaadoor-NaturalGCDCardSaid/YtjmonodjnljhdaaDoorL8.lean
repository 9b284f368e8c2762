/-
  The laws NaturalQuotient and NaturalGCD: their walks.
-/
import Derived.Test.YtjmonodjnljhdaaDoorR15
import Derived.Test.YtjmonodjnljhdaaDoorW17
namespace Go.Proofs.YtjmonodjnljhdaaDoor
open Go.RowKit Nd

theorem few2 {a b : ByteArray} (h : fewB [a, b] = true) : a.size ≤ 60 ∧ b.size ≤ 60 := by
  simp [fewB] at h; exact h

set_option maxRecDepth 20000 in
set_option maxHeartbeats 1000000 in
theorem lquotient_any (a b : ByteArray) (w : World) :
    Calls Tryd.prog 3 #[.string a, .string b] w fun e w' => e = .returned (.bool true) ∧ Chg [] w w' := by
  have hch0 : Chg [] w (w.alloc (.cells #[.string a, .string b] 9)) := (Chg.refl [] w).alloc _
  have hcs := Lib.hid (cell_alloc_strs w #[.string a, .string b] 9 [a, b] rfl)
  by_cases hf : fewB [a, b] = true
  · obtain ⟨h1, h2⟩ := few2 hf
    have HF := Lib.hid hf
    clear hf
    by_cases hy : val b = 0
    · have HY0 := Lib.hid hy
      clear hy
      go_enter Tryd.func3, Tryd.ntmps3
      go_wp2_with fail
      refine (few_any w.heap.size 2 [a, b] _ (by simp) hcs.out).mono ?_
      rintro e w1 ⟨rfl, rfl⟩
      rw [HF.out]
      obtain ⟨w1, HW⟩ := name_it (w.alloc (.cells #[.string a, .string b] 9))
      rw [HW.out] at hch0 ⊢
      go_wp2_with fail
      refine (Divide_zero a b w1 (by omega) HY0.out).mono ?_
      rintro e w2 ⟨rfl, c2⟩
      have hch1 := hch0.then c2
      clear c2 hch0
      go_wp2_with fail
      refine (natDivide_zero a b _ (by omega) HY0.out).mono ?_
      rintro e w3 ⟨rfl, c3⟩
      have hch2 := hch1.then c3
      clear c3 hch1
      go_wp2_with fail
      refine (awake_any _).mono ?_
      rintro e w4 ⟨rfl, c4⟩
      have hch3 := hch2.then c4
      clear c4 hch2
      go_wp2_with fail
      go_ret
      exact ⟨rfl, hch3⟩
    · have HY0 := Lib.hid hy
      clear hy
      go_enter Tryd.func3, Tryd.ntmps3
      go_wp2_with fail
      refine (few_any w.heap.size 2 [a, b] _ (by simp) hcs.out).mono ?_
      rintro e w1 ⟨rfl, rfl⟩
      rw [HF.out]
      obtain ⟨w1, HW⟩ := name_it (w.alloc (.cells #[.string a, .string b] 9))
      rw [HW.out] at hch0 ⊢
      go_wp2_with fail
      refine (Divide_any a b w1 (by omega) (by omega) HY0.out).mono ?_
      rintro e w2 ⟨q, r, rfl, hq, hr, c2⟩
      have HQ := Lib.hid hq
      have HR := Lib.hid hr
      have hch1 := hch0.then c2
      clear c2 hch0 hq hr
      go_wp2_with fail
      refine (natDivide_any a b _ (by omega) (by omega) HY0.out).mono ?_
      rintro e w3 ⟨x, y, rfl, hx, hy, c3⟩
      obtain rfl : x = q := Is_unique hx HQ.out
      obtain rfl : y = r := Is_unique hy HR.out
      have hch2 := hch1.then c3
      clear c3 hch1 hx hy
      go_wp2_with fail
      refine (awake_any _).mono ?_
      rintro e w4 ⟨rfl, c4⟩
      have hch3 := hch2.then c4
      clear c4 hch2
      go_wp2_with fail
      go_ret
      exact ⟨rfl, hch3⟩
  · have HF : Hid (fewB [a, b] = false) := by show _ = _; simpa using hf
    clear hf
    go_enter Tryd.func3, Tryd.ntmps3
    go_wp2_with fail
    refine (few_any w.heap.size 2 [a, b] _ (by simp) hcs.out).mono ?_
    rintro e w1 ⟨rfl, rfl⟩
    rw [HF.out]
    go_wp2_with fail
    refine (awake_any _).mono ?_
    rintro e w2 ⟨rfl, c2⟩
    have hch := hch0.then c2
    clear c2
    go_wp2_with fail
    go_ret
    exact ⟨rfl, hch⟩

set_option maxRecDepth 20000 in
set_option maxHeartbeats 1000000 in
theorem lgcd_any (a b : ByteArray) (w : World) :
    Calls Tryd.prog 4 #[.string a, .string b] w fun e w' => e = .returned (.bool true) ∧ Chg [] w w' := by
  have hch0 : Chg [] w (w.alloc (.cells #[.string a, .string b] 9)) := (Chg.refl [] w).alloc _
  have hcs := Lib.hid (cell_alloc_strs w #[.string a, .string b] 9 [a, b] rfl)
  by_cases hf : fewB [a, b] = true
  · obtain ⟨h1, h2⟩ := few2 hf
    have HF := Lib.hid hf
    clear hf
    go_enter Tryd.func4, Tryd.ntmps4
    go_wp2_with fail
    refine (few_any w.heap.size 2 [a, b] _ (by simp) hcs.out).mono ?_
    rintro e w1 ⟨rfl, rfl⟩
    rw [HF.out]
    obtain ⟨w1, HW⟩ := name_it (w.alloc (.cells #[.string a, .string b] 9))
    rw [HW.out] at hch0 ⊢
    go_wp2_with fail
    refine (awake_any _).mono ?_
    rintro e w2 ⟨rfl, c2⟩
    have hch1 := hch0.then c2
    clear c2 hch0
    go_wp2_with fail
    refine (GCD_any a b _ (by omega) (by omega)).mono ?_
    rintro e w3 ⟨s, rfl, hs, c3⟩
    have HS := Lib.hid hs
    have hch2 := hch1.then c3
    clear c3 hch1 hs
    go_wp2_with fail
    refine (rGCD_any a b _ (by omega) (by omega)).mono ?_
    rintro e w4 ⟨t, rfl, ht, c4⟩
    obtain rfl : t = s := Is_unique ht HS.out
    have hch3 := hch2.then c4
    clear c4 hch2 ht
    go_wp2_with fail
    go_ret
    exact ⟨rfl, hch3⟩
  · have HF : Hid (fewB [a, b] = false) := by show _ = _; simpa using hf
    clear hf
    go_enter Tryd.func4, Tryd.ntmps4
    go_wp2_with fail
    refine (few_any w.heap.size 2 [a, b] _ (by simp) hcs.out).mono ?_
    rintro e w1 ⟨rfl, rfl⟩
    rw [HF.out]
    go_wp2_with fail
    refine (awake_any _).mono ?_
    rintro e w2 ⟨rfl, c2⟩
    have hch := hch0.then c2
    clear c2
    go_wp2_with fail
    go_ret
    exact ⟨rfl, hch⟩

end Go.Proofs.YtjmonodjnljhdaaDoor
