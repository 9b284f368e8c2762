/-
  The laws NaturalSum and NaturalProduct: their walks.
-/
import Derived.Test.YtnemodboceenfaaDoorR4
import Derived.Test.YtnemodboceenfaaDoorR6
import Derived.Test.YtnemodboceenfaaDoorL3
namespace Go.Proofs.YtnemodboceenfaaDoor
open Go.RowKit Nd

set_option maxHeartbeats 400000 in
theorem natAdd_any (a b : ByteArray) (w : World) (ha' : a.size ≤ 1099511627776) (hb' : b.size ≤ 1099511627776) :
    Calls Tryd.prog 30 #[.string a, .string b] w fun e w' => ∃ s, e = .returned (.string s) ∧ Is s (val a + val b) ∧ Chg [] w w' := by
  go_enter Tryd.func30, Tryd.ntmps30
  go_wp2_with fail
  refine (limbs_any a _ ha').mono ?_
  rintro e w1 ⟨ga, ca, A, rfl, hA, hga, dA, _, vA, lA, cA⟩
  have HA := Lib.hid vA; clear vA
  go_wp2_with fail
  refine (limbs_any b _ hb').mono ?_
  rintro e w2 ⟨gb, cb, C, rfl, hC, hgb, dC, _, vC, lC, cC⟩
  have HC := Lib.hid vC; clear vC
  have hA2 := hA.keep cC (by simp)
  have hch := cA.then cC
  clear hA cA cC
  go_wp2_with fail
  refine (plus_any ga ca gb cb A C _ hA2 hC dA dC (by omega) (by omega)).mono ?_
  rintro e w3 ⟨v, rfl, L, hL, dL, vL, lL, cL⟩
  have HL := Lib.hid vL; clear vL
  have hch2 := hch.then cL
  clear cL hch hA2 hC
  go_wp2_with fail
  refine (text_any _ hL dL (by omega)).mono ?_
  rintro e w4 ⟨s, rfl, hs, c4⟩
  go_wp2_with fail
  go_ret
  refine ⟨s, rfl, ?_, hch2.then c4⟩
  rw [HL.out, HA.out, HC.out] at hs
  exact hs

set_option maxHeartbeats 1000000 in
theorem lsum_any (a b : ByteArray) (w : World) :
    Calls Tryd.prog 6 #[.string a, .string b] w fun e w' => e = .returned (.bool true) ∧ Chg [] w w' := by
  have hch0 : Chg [] w (w.alloc (.cells #[.string a, .string b] 9)) := (Chg.refl [] w).alloc _
  have hcs := Lib.hid (cell_alloc_strs w #[.string a, .string b] 9 [a, b] rfl)
  by_cases hf : fewB [a, b] = true
  · obtain ⟨h1, h2⟩ := few2 hf
    have HF := Lib.hid hf
    clear hf
    by_cases hle' : val a < val b
    · have hle := Lib.hid hle'
      clear hle'
      go_enter Tryd.func6, Tryd.ntmps6
      go_wp2_with fail
      refine (few_any w.heap.size 2 [a, b] _ (by simp) hcs.out).mono ?_
      rintro e w1 ⟨rfl, rfl⟩
      rw [HF.out]
      obtain ⟨w1, HW⟩ := name_it (w.alloc (.cells #[.string a, .string b] 9))
      rw [HW.out] at hch0 ⊢
      go_wp2_with fail
      refine (subtract_less a b _ (by omega) (by omega) hle.out).mono ?_
      rintro e w2 ⟨rfl, rfl⟩
      go_wp2_with fail
      refine (natSubtract_less a b _ (by omega) (by omega) hle.out).mono ?_
      rintro e w3 ⟨rfl, c3⟩
      have hch2 := hch0.then c3
      clear c3 hch0
      go_wp2_with fail
      refine (awake_any _).mono ?_
      rintro e w4 ⟨rfl, c4⟩
      have hch3 := hch2.then c4
      clear c4 hch2
      go_wp2_with fail
      refine (add_any a b _ (by omega) (by omega)).mono ?_
      rintro e w5 ⟨s, rfl, hs, c5⟩
      have HS := Lib.hid hs
      have hch4 := hch3.then c5
      clear c5 hch3 hs
      go_wp2_with fail
      refine (natAdd_any a b _ (by omega) (by omega)).mono ?_
      rintro e w6 ⟨t, rfl, ht, c6⟩
      obtain rfl : t = s := Is_unique ht HS.out
      have hch5 := hch4.then c6
      clear c6 hch4 ht
      go_wp2_with fail
      go_ret
      exact ⟨rfl, hch5⟩
    · have hle := Lib.hid (Nat.le_of_not_lt hle')
      clear hle'
      go_enter Tryd.func6, Tryd.ntmps6
      go_wp2_with fail
      refine (few_any w.heap.size 2 [a, b] _ (by simp) hcs.out).mono ?_
      rintro e w1 ⟨rfl, rfl⟩
      rw [HF.out]
      obtain ⟨w1, HW⟩ := name_it (w.alloc (.cells #[.string a, .string b] 9))
      rw [HW.out] at hch0 ⊢
      go_wp2_with fail
      refine (subtract_any a b _ (by omega) (by omega) hle.out).mono ?_
      rintro e w2 ⟨d, rfl, hd, c2⟩
      have HD := Lib.hid hd
      have hch1 := hch0.then c2
      clear c2 hch0 hd
      go_wp2_with fail
      refine (natSubtract_any a b _ (by omega) (by omega) hle.out).mono ?_
      rintro e w3 ⟨x, rfl, hx, c3⟩
      obtain rfl : x = d := Is_unique hx HD.out
      have hch2 := hch1.then c3
      clear c3 hch1 hx
      go_wp2_with fail
      refine (awake_any _).mono ?_
      rintro e w4 ⟨rfl, c4⟩
      have hch3 := hch2.then c4
      clear c4 hch2
      go_wp2_with fail
      refine (add_any a b _ (by omega) (by omega)).mono ?_
      rintro e w5 ⟨s, rfl, hs, c5⟩
      have HS := Lib.hid hs
      have hch4 := hch3.then c5
      clear c5 hch3 hs
      go_wp2_with fail
      refine (natAdd_any a b _ (by omega) (by omega)).mono ?_
      rintro e w6 ⟨t, rfl, ht, c6⟩
      obtain rfl : t = s := Is_unique ht HS.out
      have hch5 := hch4.then c6
      clear c6 hch4 ht
      go_wp2_with fail
      go_ret
      exact ⟨rfl, hch5⟩
  · have HF : Hid (fewB [a, b] = false) := by show _ = _; simpa using hf
    clear hf
    go_enter Tryd.func6, Tryd.ntmps6
    go_wp2_with fail
    refine (few_any w.heap.size 2 [a, b] _ (by simp) hcs.out).mono ?_
    rintro e w1 ⟨rfl, rfl⟩
    rw [HF.out]
    go_wp2_with fail
    refine (awake_any _).mono ?_
    rintro e w2 ⟨rfl, c2⟩
    have hch := hch0.then c2
    clear c2
    go_wp2_with fail
    go_ret
    exact ⟨rfl, hch⟩

set_option maxHeartbeats 1000000 in
theorem lproduct_any (a b : ByteArray) (w : World) :
    Calls Tryd.prog 7 #[.string a, .string b] w fun e w' => e = .returned (.bool true) ∧ Chg [] w w' := by
  have hch0 : Chg [] w (w.alloc (.cells #[.string a, .string b] 9)) := (Chg.refl [] w).alloc _
  have hcs := Lib.hid (cell_alloc_strs w #[.string a, .string b] 9 [a, b] rfl)
  by_cases hf : fewB [a, b] = true
  · obtain ⟨h1, h2⟩ := few2 hf
    have HF := Lib.hid hf
    clear hf
    go_enter Tryd.func7, Tryd.ntmps7
    go_wp2_with fail
    refine (few_any w.heap.size 2 [a, b] _ (by simp) hcs.out).mono ?_
    rintro e w1 ⟨rfl, rfl⟩
    rw [HF.out]
    obtain ⟨w1, HW⟩ := name_it (w.alloc (.cells #[.string a, .string b] 9))
    rw [HW.out] at hch0 ⊢
    go_wp2_with fail
    refine (awake_any _).mono ?_
    rintro e w4 ⟨rfl, c4⟩
    have hch3 := hch0.then c4
    clear c4 hch0
    go_wp2_with fail
    refine (multiply_any a b _ (by omega) (by omega)).mono ?_
    rintro e w5 ⟨s, rfl, hs, c5⟩
    have HS := Lib.hid hs
    have hch4 := hch3.then c5
    clear c5 hch3 hs
    go_wp2_with fail
    refine (natMultiply_any a b _ (by omega) (by omega)).mono ?_
    rintro e w6 ⟨t, rfl, ht, c6⟩
    obtain rfl : t = s := Is_unique ht HS.out
    have hch5 := hch4.then c6
    clear c6 hch4 ht
    go_wp2_with fail
    go_ret
    exact ⟨rfl, hch5⟩
  · have HF : Hid (fewB [a, b] = false) := by show _ = _; simpa using hf
    clear hf
    go_enter Tryd.func7, Tryd.ntmps7
    go_wp2_with fail
    refine (few_any w.heap.size 2 [a, b] _ (by simp) hcs.out).mono ?_
    rintro e w1 ⟨rfl, rfl⟩
    rw [HF.out]
    go_wp2_with fail
    refine (awake_any _).mono ?_
    rintro e w2 ⟨rfl, c2⟩
    have hch := hch0.then c2
    clear c2
    go_wp2_with fail
    go_ret
    exact ⟨rfl, hch⟩

end Go.Proofs.YtnemodboceenfaaDoor
