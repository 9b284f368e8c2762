/-
  The law NaturalFormat: its walk.
-/
import Derived.Test.YtnemodboceenfaaDoorR10
import Derived.Test.YtnemodboceenfaaDoorL3
namespace Go.Proofs.YtnemodboceenfaaDoor
open Go.RowKit Nd

theorem list_eq {a b : ByteArray} (h : a.data.toList = b.data.toList) : a = b := by
  cases a; cases b; simpa using h

set_option maxHeartbeats 1000000 in
theorem lformat_any (a : ByteArray) (w : World) :
    Calls Tryd.prog 12 #[.string a] w fun e w' => e = .returned (.bool true) ∧ Chg [] w w' := by
  have hch0 : Chg [] w (w.alloc (.cells #[.string a] 9)) := (Chg.refl [] w).alloc _
  have hcs := Lib.hid (cell_alloc_strs w #[.string a] 9 [a] rfl)
  by_cases hf : fewB [a] = true
  · have h1 : a.size ≤ 60 := by simpa [fewB] using hf
    have HF := Lib.hid hf
    clear hf
    obtain ⟨x, HX⟩ := name_it (val a)
    go_enter Tryd.func12, Tryd.ntmps12
    go_wp2_with fail
    refine (few_any w.heap.size 1 [a] _ (by simp) hcs.out).mono ?_
    rintro e w1 ⟨rfl, rfl⟩
    rw [HF.out]
    obtain ⟨w1, HW⟩ := name_it (w.alloc (.cells #[.string a] 9))
    rw [HW.out] at hch0 ⊢
    go_wp2_with fail
    refine (awake_any _).mono ?_
    rintro e w2 ⟨rfl, c2⟩
    have hch1 := hch0.then c2
    clear c2 hch0
    go_wp2_with fail
    refine (format_any a _ (by omega)).mono ?_
    rintro e w3 ⟨t, rfl, ht, c3⟩
    rw [HX.out] at ht
    have HT := Lib.hid ht
    have hch2 := hch1.then c3
    clear c3 hch1 ht
    go_wp2_with fail
    refine (natFormat_any a _ (by omega)).mono ?_
    rintro e w4 ⟨u, rfl, hu, c4⟩
    rw [HX.out] at hu
    obtain rfl : u = t := list_eq (Dec_unique hu HT.out)
    have hch3 := hch2.then c4
    clear c4 hch2 hu
    go_wp2_with fail
    go_ret
    exact ⟨rfl, hch3⟩
  · have HF : Hid (fewB [a] = false) := by show _ = _; simpa using hf
    clear hf
    go_enter Tryd.func12, Tryd.ntmps12
    go_wp2_with fail
    refine (few_any w.heap.size 1 [a] _ (by simp) hcs.out).mono ?_
    rintro e w1 ⟨rfl, rfl⟩
    rw [HF.out]
    obtain ⟨w1, HW⟩ := name_it (w.alloc (.cells #[.string a] 9))
    rw [HW.out] at hch0 ⊢
    go_wp2_with fail
    refine (awake_any _).mono ?_
    rintro e w2 ⟨rfl, c2⟩
    have hch1 := hch0.then c2
    clear c2 hch0
    go_wp2_with fail
    go_ret
    exact ⟨rfl, hch1⟩

end Go.Proofs.YtnemodboceenfaaDoor
