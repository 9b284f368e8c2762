/-
  The law NaturalCompare: its walk.
-/
import Derived.Test.YtnemodboceenfaaDoorR3
import Derived.Test.YtnemodboceenfaaDoorL3
namespace Go.Proofs.YtnemodboceenfaaDoor
open Go.RowKit Nd

theorem ord_neg (x y : Nat) : ord y x = - ord x y := by
  unfold ord
  by_cases h1 : x < y
  · rw [if_pos h1, if_neg (by omega), if_pos h1]; rfl
  · rw [if_neg h1]
    by_cases h2 : y < x
    · rw [if_pos h2, if_neg h1, if_pos h2]
    · rw [if_neg h2, if_neg h2, if_neg h1]; rfl
theorem val_zeros (a : ByteArray) (k : Nat) (hk : k ≤ 7) : val (((ByteArray.mk #[0, 0, 0, 0, 0, 0, 0]).extract 0 k) ++ a) = val a := by
  have h1 : (((ByteArray.mk #[0, 0, 0, 0, 0, 0, 0]).extract 0 k) ++ a).data.toList = ([0, 0, 0, 0, 0, 0, 0] : List UInt8).take k ++ a.data.toList := by
    rw [ByteArray.data_append, Array.toList_append, ext_list]; simp
  rw [val, h1, bv_append, val]
  have h2 : bv (([0, 0, 0, 0, 0, 0, 0] : List UInt8).take k) = 0 := by
    rcases (show k = 0 ∨ k = 1 ∨ k = 2 ∨ k = 3 ∨ k = 4 ∨ k = 5 ∨ k = 6 ∨ k = 7 by omega) with rfl | rfl | rfl | rfl | rfl | rfl | rfl | rfl <;> rfl
  rw [h2]; simp

set_option maxHeartbeats 1000000 in
set_option maxRecDepth 100000 in
theorem lcompare_nat (a b : ByteArray) (zs : Nat) (w : World) (hz : zs ≤ 255) :
    Calls Tryd.prog 5 #[.string a, .string b, .int .u8 zs] w fun e w' => e = .returned (.bool true) ∧ Chg [] w w' := by
  have hch0 : Chg [] w (w.alloc (.cells #[.string a, .string b] 9)) := (Chg.refl [] w).alloc _
  have hcs := Lib.hid (cell_alloc_strs w #[.string a, .string b] 9 [a, b] rfl)
  by_cases hf : fewB [a, b] = true
  · obtain ⟨h1, h2⟩ := few2 hf
    have HF := Lib.hid hf
    clear hf
    go_enter Tryd.func5, Tryd.ntmps5
    go_wp2_with fail
    refine (few_any w.heap.size 2 [a, b] _ (by simp) hcs.out).mono ?_
    rintro e w1 ⟨rfl, rfl⟩
    rw [HF.out]
    obtain ⟨w1, HW⟩ := name_it (w.alloc (.cells #[.string a, .string b] 9))
    rw [HW.out] at hch0 ⊢
    go_wp2_with fail
    refine (compare_any a b _ (by omega) (by omega)).mono ?_
    rintro e w2 ⟨rfl, rfl⟩
    obtain ⟨r, HR⟩ := name_it (ord (val a) (val b))
    have hr1 : -1 ≤ r := by rw [← HR.out]; unfold ord; split <;> (try split) <;> omega
    have hr2 : r ≤ 1 := by rw [← HR.out]; unfold ord; split <;> (try split) <;> omega
    rw [HR.out]
    have hv := val_zeros a (zs % 8) (by omega)
    obtain ⟨zz, HZ⟩ := name_it ((ByteArray.mk #[0, 0, 0, 0, 0, 0, 0]).extract 0 (zs % 8))
    have hzs : zz.size ≤ 7 := by
      rw [← HZ.out]
      have h5 : ∀ s : ByteArray, s.size = s.data.toList.length := fun s => by simp
      rw [h5, ext_list, List.length_take, List.length_drop]
      have : (ByteArray.mk #[0, 0, 0, 0, 0, 0, 0]).data.toList.length = 7 := rfl
      omega
    rw [HZ.out] at hv ⊢
    obtain ⟨za, HZA⟩ := name_it (zz ++ a)
    have hzas : za.size ≤ 67 := by rw [← HZA.out, ByteArray.size_append]; omega
    rw [HZA.out] at hv
    have HV := Lib.hid hv
    clear hv
    go_wp2_with fail
    refine (awake_any _).mono ?_
    rintro e w3 ⟨rfl, c3⟩
    have hch1 := hch0.then c3
    clear c3 hch0
    go_wp2_with fail
    refine (natCompare_any a b _ (by omega) (by omega)).mono ?_
    rintro e w4 ⟨rfl, c4⟩
    have hch2 := hch1.then c4
    clear c4 hch1
    rw [HR.out]
    go_wp2_with fail
    rw [HZA.out]
    refine (compare_any za b _ (by omega) (by omega)).mono ?_
    rintro e w5 ⟨rfl, rfl⟩
    rw [HV.out, HR.out]
    go_wp2_with fail
    rw [HZA.out]
    refine (compare_any b za _ (by omega) (by omega)).mono ?_
    rintro e w5 ⟨rfl, rfl⟩
    rw [HV.out, ord_neg (val a) (val b), HR.out]
    go_wp2_with fail
    go_ret
    exact ⟨rfl, hch2⟩
  · have HF : Hid (fewB [a, b] = false) := by show _ = _; simpa using hf
    clear hf
    go_enter Tryd.func5, Tryd.ntmps5
    go_wp2_with fail
    refine (few_any w.heap.size 2 [a, b] _ (by simp) hcs.out).mono ?_
    rintro e w1 ⟨rfl, rfl⟩
    rw [HF.out]
    go_wp2_with fail
    refine (awake_any _).mono ?_
    rintro e w2 ⟨rfl, c2⟩
    have hch := hch0.then c2
    clear c2
    go_wp2_with fail
    go_ret
    exact ⟨rfl, hch⟩

theorem lcompare_any (a b : ByteArray) (z : Int) (w : World) (hz : (Lit.int .u8 z).wf = true) :
    Calls Tryd.prog 5 #[.string a, .string b, .int .u8 z] w fun e w' => e = .returned (.bool true) ∧ Chg [] w w' := by
  have hb : 0 ≤ z ∧ z ≤ 255 := by simpa [Lit.wf, IntKind.min, IntKind.max, IntKind.signed, IntKind.bits] using hz
  obtain ⟨n, rfl⟩ := Int.eq_ofNat_of_zero_le hb.1
  exact lcompare_nat a b n w (by omega)

end Go.Proofs.YtnemodboceenfaaDoor
