/-
  The laws NaturalDivision and NaturalDivisors: their walks.
-/
import Derived.Test.YtnemodboceenfaaDoorL1
namespace Go.Proofs.YtnemodboceenfaaDoor
open Go.RowKit Nd

theorem few2 {a b : ByteArray} (h : fewB [a, b] = true) : a.size ≤ 60 ∧ b.size ≤ 60 := by
  simp [fewB] at h; exact h
theorem nrmB_empty (s : ByteArray) : (nrmB s).toList.isEmpty = decide (val s = 0) := by
  rw [toList_data]
  have h : (nrmB s).data.toList = nrm s.data.toList := by simp [nrmB]
  rw [h]
  by_cases h0 : val s = 0
  · have := (nrm_zero_iff s.data.toList).2 h0
    simp [this, h0]
  · have : nrm s.data.toList ≠ [] := fun he => h0 ((nrm_zero_iff s.data.toList).1 he)
    simp [this, h0]
theorem small_size {s : ByteArray} {n m k : Nat} (h : Is s n) (hn : n ≤ m) (hm : m < 256 ^ k) : s.size ≤ k := Is_size h k (by omega)

set_option maxHeartbeats 1000000 in
theorem division_any (a b : ByteArray) (w : World) :
    Calls Tryd.prog 14 #[.string a, .string b] w fun e w' => e = .returned (.bool true) ∧ Chg [] w w' := by
  have hch0 : Chg [] w (w.alloc (.cells #[.string a, .string b] 9)) := (Chg.refl [] w).alloc _
  have hcs := Lib.hid (cell_alloc_strs w #[.string a, .string b] 9 [a, b] rfl)
  by_cases hf : fewB [a, b] = true
  · obtain ⟨h1, h2⟩ := few2 hf
    have HF := Lib.hid hf
    clear hf
    have va := Lib.hid (val_lt_of h1)
    have vb := Lib.hid (val_lt_of h2)
    obtain ⟨x, HX⟩ := name_it (val a)
    obtain ⟨y, HY⟩ := name_it (val b)
    obtain ⟨p, HP⟩ := name_it (nrmB b)
    have hpe := nrmB_empty b
    rw [HP.out, HY.out] at hpe
    have HPE := Lib.hid hpe
    clear hpe
    by_cases hy : y = 0
    · have hy0 : val b = 0 := by rw [HY.out]; exact hy
      have hp : p.toList.isEmpty = true := by rw [HPE.out]; simpa using hy
      have HY0 := Lib.hid hy0
      clear hy hy0
      go_enter Tryd.func14, Tryd.ntmps14
      go_wp2_with fail
      refine (few_any w.heap.size 2 [a, b] _ (by simp) hcs.out).mono ?_
      rintro e w1 ⟨rfl, rfl⟩
      rw [HF.out]
      obtain ⟨w1, HW⟩ := name_it (w.alloc (.cells #[.string a, .string b] 9))
      rw [HW.out] at hch0 ⊢
      go_wp2_with fail
      refine (Divide_zero a b w1 (by omega) HY0.out).mono ?_
      rintro e w2 ⟨rfl, c2⟩
      have hch1 := hch0.then c2
      clear c2 hch0
      go_wp2_with fail
      refine (normalize_any b _ (by omega)).mono ?_
      rintro e w3 ⟨rfl, rfl⟩
      rw [HP.out]
      go_wp2_with fail
      refine (awake_any _).mono ?_
      rintro e w3 ⟨rfl, c3⟩
      have hch2 := hch1.then c3
      clear c3 hch1
      go_wp2_with fail
      go_ret
      exact ⟨rfl, hch2⟩
    · have hy0 : val b ≠ 0 := by rw [HY.out]; exact hy
      have hp : p.toList.isEmpty = false := by rw [HPE.out]; simpa using hy
      have HY0 := Lib.hid hy0
      have HYN := Lib.hid hy
      clear hy hy0
      go_enter Tryd.func14, Tryd.ntmps14
      go_wp2_with fail
      refine (few_any w.heap.size 2 [a, b] _ (by simp) hcs.out).mono ?_
      rintro e w1 ⟨rfl, rfl⟩
      rw [HF.out]
      obtain ⟨w1, HW⟩ := name_it (w.alloc (.cells #[.string a, .string b] 9))
      rw [HW.out] at hch0 ⊢
      go_wp2_with fail
      refine (Divide_any a b w1 (by omega) (by omega) HY0.out).mono ?_
      rintro e w2 ⟨q, r, rfl, hq, hr, c2⟩
      rw [HX.out, HY.out] at hq hr
      have hlt : x % y < y := Nat.mod_lt _ (Nat.pos_of_ne_zero HYN.out)
      have hxb := va.out
      have hyb := vb.out
      rw [HX.out] at hxb
      rw [HY.out] at hyb
      have zq : q.size ≤ 60 := small_size hq (Nat.div_le_self _ _) hxb
      have zr : r.size ≤ 60 := small_size hr (Nat.le_of_lt hlt) hyb
      have HQ := Lib.hid hq
      have HR := Lib.hid hr
      have HLT := Lib.hid hlt
      have hch1 := hch0.then c2
      clear c2 hch0 hq hr hlt hxb hyb
      go_wp2_with fail
      refine (normalize_any b _ (by omega)).mono ?_
      rintro e w3 ⟨rfl, rfl⟩
      rw [HP.out]
      go_wp2_with fail
      refine (awake_any _).mono ?_
      rintro e w3 ⟨rfl, c3⟩
      have hch2 := hch1.then c3
      clear c3 hch1
      go_wp2_with fail
      refine (compare_any r b _ (by omega) (by omega)).mono ?_
      rintro e w4 ⟨rfl, rfl⟩
      rw [Is_val HR.out, HY.out, ord_lt HLT.out]
      go_wp2_with fail
      refine (multiply_any q b _ (by omega) (by omega)).mono ?_
      rintro e w4 ⟨s, rfl, hs, c4⟩
      rw [Is_val HQ.out, HY.out] at hs
      have zs : s.size ≤ 60 + 60 := by
        refine mul_size hs ?_ (by rw [← HY.out]; exact vb.out)
        have := va.out
        rw [HX.out] at this
        exact Nat.lt_of_le_of_lt (Nat.div_le_self _ _) this
      have HS := Lib.hid hs
      have hch3 := hch2.then c4
      clear c4 hch2 hs
      go_wp2_with fail
      refine (add_any s r _ (by omega) (by omega)).mono ?_
      rintro e w5 ⟨t, rfl, ht, c5⟩
      rw [Is_val HS.out, Is_val HR.out, Nat.div_add_mod'] at ht
      have HT := Lib.hid ht
      have hch4 := hch3.then c5
      clear c5 hch3 ht
      go_wp2_with fail
      refine (normalize_any a _ (by omega)).mono ?_
      rintro e w6 ⟨rfl, rfl⟩
      have hta : nrmB a = t := Is_unique (by have := Is_nrmB a; rwa [HX.out] at this) HT.out
      rw [hta]
      clear hta
      go_wp2_with fail
      go_ret
      exact ⟨rfl, hch4⟩
  · have HF : Hid (fewB [a, b] = false) := by show _ = _; simpa using hf
    clear hf
    go_enter Tryd.func14, Tryd.ntmps14
    go_wp2_with fail
    refine (few_any w.heap.size 2 [a, b] _ (by simp) hcs.out).mono ?_
    rintro e w1 ⟨rfl, rfl⟩
    rw [HF.out]
    go_wp2_with fail
    refine (awake_any _).mono ?_
    rintro e w2 ⟨rfl, c2⟩
    have hch := hch0.then c2
    clear c2
    go_wp2_with fail
    go_ret
    exact ⟨rfl, hch⟩

end Go.Proofs.YtnemodboceenfaaDoor
