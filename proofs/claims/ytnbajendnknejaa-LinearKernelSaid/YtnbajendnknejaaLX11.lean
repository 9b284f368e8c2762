/-
  checkSquare; the errors of Solve and Determinant.
-/
import Derived.Test.YtnbajendnknejaaLX10
namespace Go.Proofs.Ytnbajendnknejaa
open Go.RowKit Nd
/-- What checkSquare answers. -/
def squareE (M : List (List Q3)) : Nat := if shapeE M ≠ 0 then shapeE M else if M.length ≠ (M.getD 0 []).length then 4 else 0
theorem squareE_ok {M : List (List Q3)} (h : squareE M = 0) : shapeE M = 0 ∧ M.length = (M.getD 0 []).length := by
  unfold squareE at h
  split at h
  · omega
  · split at h
    · omega
    · exact ⟨by omega, by omega⟩
theorem squareE_bad {M : List (List Q3)} (h : shapeE M ≠ 0) : squareE M = shapeE M := by unfold squareE; rw [if_pos h]
theorem squareE_four {M : List (List Q3)} (h : shapeE M = 0) (h2 : M.length ≠ (M.getD 0 []).length) : squareE M = 4 := by
  unfold squareE; rw [if_neg (by omega), if_pos h2]
theorem squareE_zero {M : List (List Q3)} (h : shapeE M = 0) (h2 : M.length = (M.getD 0 []).length) : squareE M = 0 := by
  unfold squareE; rw [if_neg (by omega), if_neg (by omega)]

set_option maxRecDepth 20000 in
set_option maxHeartbeats 2000000 in
theorem checkSquare_any (M : List (List Q3)) (A : Option Addr) (cap : Nat) (w : World) (hn : M.length ≤ 1000000) (hx : Mtx w A M) :
    Calls Try.prog 68 #[.slice A M.length cap] w fun e w' => e = .returned (.int .i64 (squareE M : Nat)) ∧ Chg [] w w' := by
  have HN0 := Lib.hid hn
  by_cases hs : shapeE M = 0
  · obtain ⟨s0, s1, s2, s3, s4⟩ := shapeE_ok hs
    obtain ⟨ga, oa, rfl, hga⟩ := hx.form (by omega)
    obtain ⟨B0, cr0, h0, _, _, _⟩ := hx.at_ (i := 0) (by omega)
    obtain ⟨sq, HSQ⟩ := name_it (squareE M)
    have HSQ2 := Lib.hid (show shapeE M = 0 → (M.length ≠ (M.getD 0 []).length → squareE M = 4) ∧ (M.length = (M.getD 0 []).length → squareE M = 0) from fun h => ⟨squareE_four h, squareE_zero h⟩)
    obtain ⟨n, HN⟩ := name_it M.length
    obtain ⟨m, HM⟩ := name_it (M.getD 0 []).length
    have HSQ3 := HSQ2.out hs
    rw [HN.out, HM.out, HSQ.out] at HSQ3
    rw [HN.out] at s0 s3
    rw [HM.out] at s1 s4
    rw [Nat.add_zero, HM.out] at h0
    have HC0 := Lib.hid h0
    have HSH := Lib.hid hs
    have HX := Lib.hid hx
    have hch : Chg [] w w := Chg.refl _ _
    clear h0 hx hs s2 hn
    rw [HN.out, HSQ.out]
    have HQ := Lib.hid HSQ3
    clear HSQ3
    go_enter Try.func68, Try.ntmps68
    go_wp2_with fail
    rw [← HN.out]
    refine (check_any M _ cap _ HN0.out HX.out).mono ?_
    rintro e w1 ⟨rfl, c1⟩
    rw [HSH.out, HN.out]
    replace hch := hch.then c1
    clear c1
    have c0 := (hch.cell (p := ⟨ga, oa, none⟩) hga (by simp)).trans HC0.out
    have n1 : (0 : Int) < (n : Int) := by omega
    by_cases he : n = m
    · have e1 : ((n : Int) != (m : Int)) = false := by simp; omega
      have hq := HQ.out.2 he
      subst hq
      go_wp2_with fail
      go_ret
      exact ⟨rfl, hch⟩
    · have e1 : ((n : Int) != (m : Int)) = true := by simp; omega
      have hq := HQ.out.1 he
      subst hq
      go_wp2_with fail
      go_ret
      exact ⟨rfl, hch⟩
  · rw [squareE_bad hs]
    obtain ⟨s, HS⟩ := name_it (shapeE M)
    rw [HS.out] at hs
    rw [HS.out]
    have hs1 : ((s : Int) != 0) = true := by simp; omega
    go_enter Try.func68, Try.ntmps68
    go_wp2_with fail
    refine (check_any M A cap _ hn hx).mono ?_
    rintro e w1 ⟨rfl, c1⟩
    rw [HS.out]
    go_wp2_with fail
    go_ret
    exact ⟨rfl, c1⟩

set_option maxRecDepth 20000 in
set_option maxHeartbeats 1000000 in
theorem Determinant_bad (M : List (List Q3)) (A : Option Addr) (cap : Nat) (w : World) (hn : M.length ≤ 1000000) (hx : Mtx w A M) (hs : squareE M ≠ 0) :
    Calls Try.prog 35 #[.slice A M.length cap] w fun e w' => e = .returned (.tuple #[.agg #[.bool false, .string ⟨#[]⟩, .string ⟨#[]⟩], .int .i64 (squareE M : Nat)]) ∧ Chg [] w w' := by
  obtain ⟨s, HS⟩ := name_it (squareE M)
  rw [HS.out] at hs
  rw [HS.out]
  have hs1 : ((s : Int) != 0) = true := by simp; omega
  have b1 := Blk3.alloc w (.bool false) (.string ⟨#[]⟩) (.string ⟨#[]⟩) 49
  have hch : Chg [] w (w.alloc (.cells #[.bool false, .string ⟨#[]⟩, .string ⟨#[]⟩] 49)) := (Chg.refl _ _).alloc _
  have hgl := b1.lt
  go_enter Try.func35, Try.ntmps35
  go_wp2_with fail
  refine (checkSquare_any M A cap _ hn (hx.keep0 hch)).mono ?_
  rintro e w1 ⟨rfl, c1⟩
  rw [HS.out]
  replace b1 := b1.keep c1 (by simp)
  replace hch := hch.then c1
  clear c1
  have b1c0 := b1.c0
  have b1c1 := b1.c1
  have b1c2 := b1.c2
  have b1f0 := b1.f0
  have b1f1 := b1.f1
  have b1f2 := b1.f2
  have b1l := b1.lt
  have S := b1.store (.bool false) (.string ⟨#[]⟩) (.string ⟨#[]⟩)
  have SC := b1
  go_wp2_with fail
  first
    | exact bodyPost_ret (v := .tuple #[.agg #[.bool false, .string ⟨#[]⟩, .string ⟨#[]⟩], .int .i64 (s : Nat)]) (by simp [results, Try.results35, go_sem, S.c0, S.c1, S.c2]) rfl ⟨rfl, hch.store3o (.inr (Nat.le_refl _)) _ _ _⟩
    | exact bodyPost_ret (v := .tuple #[.agg #[.bool false, .string ⟨#[]⟩, .string ⟨#[]⟩], .int .i64 (s : Nat)]) (by simp [results, Try.results35, go_sem, SC.c0, SC.c1, SC.c2]) rfl ⟨rfl, hch⟩

set_option maxRecDepth 20000 in
set_option maxHeartbeats 1000000 in
theorem Solve_bad (M : List (List Q3)) (xs : List Q3) (A B : Option Addr) (cap cb : Nat) (w : World) (hn : M.length ≤ 1000000) (hx : Mtx w A M) (hs : squareE M ≠ 0) :
    Calls Try.prog 31 #[.slice A M.length cap, .slice B xs.length cb] w fun e w' => e = .returned (.tuple #[.slice none 0 0, .int .i64 (squareE M : Nat)]) ∧ Chg [] w w' := by
  obtain ⟨s, HS⟩ := name_it (squareE M)
  rw [HS.out] at hs
  rw [HS.out]
  have hs1 : ((s : Int) != 0) = true := by simp; omega
  go_enter Try.func31, Try.ntmps31
  go_wp2_with fail
  refine (checkSquare_any M A cap _ hn hx).mono ?_
  rintro e w1 ⟨rfl, c1⟩
  rw [HS.out]
  go_wp2_with fail
  go_ret2
  exact ⟨rfl, c1⟩

set_option maxRecDepth 20000 in
set_option maxHeartbeats 1000000 in
theorem Solve_len (M : List (List Q3)) (xs : List Q3) (A B : Option Addr) (cap cb : Nat) (w : World) (hn : M.length ≤ 1000000) (hx : Mtx w A M) (hs : squareE M = 0) (hl : xs.length ≠ M.length) :
    Calls Try.prog 31 #[.slice A M.length cap, .slice B xs.length cb] w fun e w' => e = .returned (.tuple #[.slice none 0 0, .int .i64 4]) ∧ Chg [] w w' := by
  have HNN := Lib.hid hn
  have HS := Lib.hid hs
  have HX := Lib.hid hx
  obtain ⟨n, HN⟩ := name_it M.length
  obtain ⟨l, HL⟩ := name_it xs.length
  rw [HN.out, HL.out] at hl
  rw [HN.out, HL.out]
  have hl1 : ((l : Int) != (n : Int)) = true := by simp; omega
  clear hn hs hx
  go_enter Try.func31, Try.ntmps31
  go_wp2_with fail
  rw [← HN.out]
  refine (checkSquare_any M A cap _ HNN.out HX.out).mono ?_
  rintro e w1 ⟨rfl, c1⟩
  rw [HS.out, HN.out]
  go_wp2_with fail
  go_ret2
  exact ⟨rfl, c1⟩

end Go.Proofs.Ytnbajendnknejaa
