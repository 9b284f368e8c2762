/-
  Walks: awake, the examples of the chapter; few.
-/
import Derived.Test.YtjmonodjnljhdaaDoorW16
namespace Go.Proofs.YtjmonodjnljhdaaDoor
open Go.RowKit Nd

theorem Is_lit (s : ByteArray) (n : Nat) (h1 : val s = n) (h2 : nolead s.data.toList) : Is s n := ⟨h1, h2⟩

set_option maxHeartbeats 1000000 in
set_option maxRecDepth 100000 in
theorem awake_any (w : World) : Calls Tryd.prog 10 #[] w fun e w' => e = .returned (.bool true) ∧ Chg [] w w' := by
  have v1 : Hid (val ⟨#[3, 232]⟩ = 1000) := by show _ = _; decide
  have v2 : Hid (val ⟨#[7]⟩ = 7) := by show _ = _; decide
  have v3 : Hid (canD (ByteArray.mk #[48, 48, 55]).data.toList = false) := by show _ = _; decide
  have v4 : Hid (val ⟨#[255]⟩ = 255) := by show _ = _; decide
  have v5 : Hid (val ⟨#[1]⟩ = 1) := by show _ = _; decide
  go_enter Tryd.func10, Tryd.ntmps10
  go_wp2_with fail
  refine (Divide_any _ _ w (by decide) (by decide) (by rw [v2.out]; decide)).mono ?_
  rintro e w1 ⟨q, r, rfl, hq, hr, hc1⟩
  rw [v1.out, v2.out] at hq hr
  have HQ := Lib.hid hq
  have HR := Lib.hid hr
  clear hq hr
  go_wp2_with fail
  refine (parse_bad _ w1 (by decide) v3.out).mono ?_
  rintro e w2 ⟨rfl, rfl⟩
  go_wp2_with fail
  refine (add_any _ _ w1 (by decide) (by decide)).mono ?_
  rintro e w2 ⟨s, rfl, hs, hc2⟩
  rw [v4.out, v5.out] at hs
  obtain rfl : s = ⟨#[1, 0]⟩ := Is_unique hs (Is_lit _ _ (by decide) (by simp [nolead]))
  have hch := hc1.then hc2
  clear hs hc1 hc2
  go_wp2_with fail
  refine (format_any q w2 ?_).mono ?_
  · exact Nat.le_trans (Is_size HQ.out 1 (by decide)) (by decide)
  rintro e w3 ⟨t, rfl, ht, hc3⟩
  rw [Is_val HQ.out] at ht
  obtain rfl : t = ⟨#[49, 52, 50]⟩ := by
    apply ByteArray.ext
    exact Array.toList_inj.1 (Dec_unique ht ⟨by decide, by decide⟩)
  have hch2 := hch.then hc3
  clear ht hch hc3
  go_wp2_with fail
  refine (format_any r w3 ?_).mono ?_
  · exact Nat.le_trans (Is_size HR.out 1 (by decide)) (by decide)
  rintro e w4 ⟨t, rfl, ht, hc4⟩
  rw [Is_val HR.out] at ht
  obtain rfl : t = ⟨#[54]⟩ := by
    apply ByteArray.ext
    exact Array.toList_inj.1 (Dec_unique ht ⟨by decide, by decide⟩)
  have hch3 := hch2.then hc4
  clear ht hch2 hc4
  go_wp2_with fail
  go_ret
  exact ⟨rfl, hch3⟩

/-- All strings have at most 60 bytes. -/
def fewB (ss : List ByteArray) : Bool := ss.all fun s => decide (s.size ≤ 60)

set_option maxRecDepth 20000 in
theorem few_any (g cap : Nat) (ss : List ByteArray) (w : World) (hl : ss.length ≤ 100) (hc : ∀ j, j < ss.length → w.cell? ⟨g, j, none⟩ = some (.string (ss.getD j ByteArray.empty))) :
    Calls Tryd.prog 9 #[.slice (some ⟨g, 0, none⟩) ss.length cap] w fun e w' => e = .returned (.bool (fewB ss)) ∧ w = w' := by
  obtain ⟨n, HN⟩ := name_it ss.length
  obtain ⟨r, HR⟩ := name_it (fewB ss)
  have HC := Lib.hid hc
  rw [HN.out] at hl ⊢
  rw [HR.out]
  clear hc
  go_enter Tryd.func9, Tryd.ntmps9
  go_wp2_with fail
  go_loop [7] (fun iv => ∃ k : Nat, k ≤ n ∧ iv = .int .i64 k ∧ fewB (ss.take k) = true) (fun iv => n - (intOf iv).toNat)
  case atStart => exact ⟨0, Nat.zero_le _, rfl, by simp [fewB]⟩
  case round =>
    obtain ⟨k, hk, rfl, hf⟩ := hrel
    have HF := Lib.hid hf
    clear hf
    by_cases hlt : k < n
    · have hcell := HC.out k (by rw [HN.out]; exact hlt)
      obtain ⟨s, HS⟩ := name_it (ss.getD k ByteArray.empty)
      rw [HS.out] at hcell
      have hmem : s ∈ ss := by rw [← HS.out, getD_lt _ _ (by rw [HN.out]; exact hlt)]; exact List.getElem_mem _
      have hst : fewB (ss.take (k + 1)) = (fewB (ss.take k) && decide (s.size ≤ 60)) := by
        rw [take_snoc ss ByteArray.empty k (by rw [HN.out]; exact hlt), HS.out]; simp [fewB]
      have HM := Lib.hid hmem
      have HST := Lib.hid hst
      clear hmem hst
      by_cases h60 : 60 < s.size
      · have hr : r = false := by
          rw [← HR.out]; unfold fewB; rw [List.all_eq_false]
          exact ⟨s, HM.out, by simp; omega⟩
        subst hr
        go_wp2_with fail
        go_ret
        exact ⟨rfl, rfl⟩
      · go_wp2_with fail
        go_round
        case rel => exact ⟨k + 1, by omega, by go_num, by rw [HST.out, HF.out]; simp; omega⟩
        case measure => simp [intOf]; omega
    · have hr : r = true := by
        rw [← HR.out]; have := HF.out; rwa [List.take_of_length_le (by rw [HN.out]; omega)] at this
      subst hr
      go_wp2_with fail
      go_ret
      exact ⟨rfl, rfl⟩

theorem cell_alloc_strs (w : World) (cs : Array Value) (e : TypeId) (ss : List ByteArray) (hcs : cs = (ss.map Value.string).toArray) :
    ∀ j, j < ss.length → (w.alloc (.cells cs e)).cell? ⟨w.heap.size, j, none⟩ = some (.string (ss.getD j ByteArray.empty)) := by
  intro j hj
  rw [cell_of_row _ _ _ _ _ _ (heap_alloc_new w _), hcs]
  simp [List.getD, hj]

end Go.Proofs.YtjmonodjnljhdaaDoor
