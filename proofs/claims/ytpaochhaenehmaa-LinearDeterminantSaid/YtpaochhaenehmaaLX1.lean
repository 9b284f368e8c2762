/-
  Matrices in memory that are read: FewRows, check, the reference's shape.
-/
import Derived.Test.YtpaochhaenehmaaV21
namespace Go.Proofs.Ytpaochhaenehmaa
open Go.RowKit Nd
theorem all_succ {P : Nat → Prop} {k : Nat} (h : ∀ i, i < k → P i) (hk : P k) : ∀ i, i < k + 1 → P i := by
  intro i hi
  rcases Nat.lt_or_ge i k with h1 | h1
  · exact h i h1
  · obtain rfl : i = k := by omega
    exact hk
/-- The rows M can be read from A on: a slice of slices. -/
def Mtx (w : World) (A : Option Addr) (M : List (List Q3)) : Prop :=
  0 < M.length → ∃ g o, A = some ⟨g, o, none⟩ ∧ g < w.heap.size ∧ ∀ i, i < M.length →
    ∃ B c, w.cell? ⟨g, o + i, none⟩ = some (.slice B (M.getD i []).length c) ∧ (M.getD i []).length ≤ c ∧ c ≤ 9223372036854775807 ∧ Rds w B (M.getD i [])
theorem Mtx.nil (w : World) (A : Option Addr) : Mtx w A [] := fun h => absurd h (by simp)
theorem Mtx.keep0 {w w' : World} {A : Option Addr} {M : List (List Q3)} (h : Mtx w A M) (hc : Chg [] w w') : Mtx w' A M := by
  intro hl
  obtain ⟨g, o, rfl, hlt, hcell⟩ := h hl
  refine ⟨g, o, rfl, Nat.lt_of_lt_of_le hlt hc.size, fun i hi => ?_⟩
  obtain ⟨B, c, a, b, d, e⟩ := hcell i hi
  exact ⟨B, c, (hc.cell (p := ⟨g, _, none⟩) hlt (by simp)).trans a, b, d, e.keep0 hc⟩
theorem Mtx.form {w : World} {A : Option Addr} {M : List (List Q3)} (h : Mtx w A M) (hl : 0 < M.length) : ∃ g o, A = some ⟨g, o, none⟩ ∧ g < w.heap.size := by
  obtain ⟨g, o, e, hlt, _⟩ := h hl
  exact ⟨g, o, e, hlt⟩
theorem Mtx.at_ {w : World} {g o : Nat} {M : List (List Q3)} (h : Mtx w (some ⟨g, o, none⟩) M) {i : Nat} (hi : i < M.length) :
    ∃ B c, w.cell? ⟨g, o + i, none⟩ = some (.slice B (M.getD i []).length c) ∧ (M.getD i []).length ≤ c ∧ c ≤ 9223372036854775807 ∧ Rds w B (M.getD i []) := by
  obtain ⟨g', o', he, hlt, hcell⟩ := h (by omega)
  simp only [Option.some.injEq, Addr.mk.injEq, and_true] at he
  obtain ⟨rfl, rfl⟩ := he
  exact hcell i hi
/-- What FewRows says. -/
def fewM (n : Nat) (M : List (List Q3)) : Bool := M.all fun r => decide (r.length ≤ n) && fewQ r
theorem fewM_snoc (n : Nat) (M : List (List Q3)) {k : Nat} (h : k < M.length) : fewM n (M.take (k + 1)) = (fewM n (M.take k) && (decide ((M.getD k []).length ≤ n) && fewQ (M.getD k []))) := by
  rw [take_snoc M [] k h]; simp [fewM]
theorem mem_getM {M : List (List Q3)} {i : Nat} (h : i < M.length) : M.getD i [] ∈ M := by
  rw [getD_lt _ _ h]; exact List.getElem_mem _
/-- The error of a matrix whose rows have these lengths. -/
def shapeE (M : List (List Q3)) : Nat :=
  if M.length = 0 ∨ (M.getD 0 []).length = 0 ∨ ∃ i, i < M.length ∧ (M.getD i []).length ≠ (M.getD 0 []).length then 4 else if 16 < M.length ∨ 16 < (M.getD 0 []).length then 2 else 0
theorem shapeE_none {M : List (List Q3)} (h : M.length = 0) : shapeE M = 4 := by unfold shapeE; rw [if_pos (.inl h)]
theorem shapeE_zero {M : List (List Q3)} (h : (M.getD 0 []).length = 0) : shapeE M = 4 := by unfold shapeE; rw [if_pos (.inr (.inl h))]
theorem shapeE_ne {M : List (List Q3)} {i : Nat} (hi : i < M.length) (h : (M.getD i []).length ≠ (M.getD 0 []).length) : shapeE M = 4 := by unfold shapeE; rw [if_pos (.inr (.inr ⟨i, hi, h⟩))]
theorem shapeE_long {M : List (List Q3)} (h0 : M.length ≠ 0) (h1 : (M.getD 0 []).length ≠ 0) (h2 : ∀ i, i < M.length → (M.getD i []).length = (M.getD 0 []).length) (h3 : 16 < M.length ∨ 16 < (M.getD 0 []).length) : shapeE M = 2 := by
  unfold shapeE; rw [if_neg (by rintro (h | h | ⟨i, hi, h⟩); exact h0 h; exact h1 h; exact h (h2 i hi)), if_pos h3]
theorem shapeE_good {M : List (List Q3)} (h0 : M.length ≠ 0) (h1 : (M.getD 0 []).length ≠ 0) (h2 : ∀ i, i < M.length → (M.getD i []).length = (M.getD 0 []).length) (h3 : M.length ≤ 16) (h4 : (M.getD 0 []).length ≤ 16) : shapeE M = 0 := by
  unfold shapeE; rw [if_neg (by rintro (h | h | ⟨i, hi, h⟩); exact h0 h; exact h1 h; exact h (h2 i hi)), if_neg (by omega)]
theorem shapeE_ok {M : List (List Q3)} (h : shapeE M = 0) : M.length ≠ 0 ∧ (M.getD 0 []).length ≠ 0 ∧ (∀ i, i < M.length → (M.getD i []).length = (M.getD 0 []).length) ∧ M.length ≤ 16 ∧ (M.getD 0 []).length ≤ 16 := by
  unfold shapeE at h
  split at h
  · omega
  · rename_i h1
    split at h
    · omega
    · rename_i h2
      refine ⟨fun h => h1 (.inl h), fun h => h1 (.inr (.inl h)), fun i hi => ?_, by omega, by omega⟩
      rcases Nat.decEq (M.getD i []).length (M.getD 0 []).length with h | h
      · exact absurd (.inr (.inr ⟨i, hi, h⟩)) h1
      · exact h

set_option maxRecDepth 20000 in
set_option maxHeartbeats 1000000 in
theorem fewRows_any (M : List (List Q3)) (A : Option Addr) (cap m : Nat) (w : World) (hm : m ≤ 1000) (hx : Mtx w A M) :
    Calls Try.prog 6 #[.slice A M.length cap, .int .i64 m] w fun e w' => e = .returned (.bool (decide (M.length ≤ m) && fewM m M)) ∧ Chg [] w w' := by
  have hch : Chg [] w w := Chg.refl _ _
  obtain ⟨n, HN⟩ := name_it M.length
  obtain ⟨r, HR⟩ := name_it (decide (M.length ≤ m) && fewM m M)
  rw [HR.out]
  rw [HN.out] at HR ⊢
  by_cases hlen : n ≤ m
  · have hR2 : Hid (r = fewM m M) := by show _ = _; rw [← HR.out]; simp [hlen]
    have hgn : decide (m < n) = false := by simp; omega
    clear HR
    go_enter Try.func6, Try.ntmps6
    go_wp2_with fail
    first | rw [hgn] | skip
    clear hgn
    go_loopw [6, 13] (fun bv iv wr => ∃ k : Nat, k ≤ n ∧ iv = .int .i64 k ∧ fewM m (M.take k) = true ∧ Mtx wr A M ∧ Chg [] w wr) (fun _ iv _ => n - (intOf iv).toNat)
    case atStart => exact ⟨0, Nat.zero_le _, rfl, by simp [fewM], hx, hch⟩
    case round =>
      clear hx hch
      obtain ⟨k, hk, rfl, hf, hx, hch⟩ := hrel
      have HF := Lib.hid hf
      clear hf
      by_cases hlt : k < n
      · obtain ⟨g, o, rfl, hgl⟩ := hx.form (by rw [HN.out]; omega)
        obtain ⟨B, c, c0, _, _, hr⟩ := hx.at_ (i := k) (by rw [HN.out]; exact hlt)
        have hst := Lib.hid (fewM_snoc m M (k := k) (by rw [HN.out]; exact hlt))
        have hmem := Lib.hid (mem_getM (M := M) (i := k) (by rw [HN.out]; exact hlt))
        obtain ⟨row, HRW⟩ := name_it (M.getD k [])
        rw [HRW.out] at c0 hr hst hmem
        go_wp2_with fail
        refine (fewRds_any row B c m _ hm hr).mono ?_
        rintro e w1 ⟨rfl, c1⟩
        replace hx := hx.keep0 c1
        replace hch := hch.then c1
        clear c0 c1 hr
        cases hsh : (decide (row.length ≤ m) && fewQ row)
        · have hr : r = false := by
            rw [hR2.out]; unfold fewM; rw [List.all_eq_false]
            exact ⟨row, hmem.out, by simp [hsh]⟩
          subst hr
          go_wp2_with fail
          go_ret
          exact ⟨rfl, hch⟩
        · go_wp2_with fail
          go_roundw
          case rel => exact ⟨k + 1, by omega, by go_num, by rw [hst.out, HF.out, hsh]; rfl, hx, hch⟩
          case measure => simp [intOf]; omega
      · have hr : r = true := by
          rw [hR2.out]; have := HF.out; rwa [List.take_of_length_le (by rw [HN.out]; omega)] at this
        subst hr
        go_wp2_with fail
        go_ret
        exact ⟨rfl, hch⟩
  · have hr : r = false := by rw [← HR.out]; simp [hlen]
    subst hr
    have hgt : decide (m < n) = true := by simp; omega
    clear HR hlen
    go_enter Try.func6, Try.ntmps6
    go_wp2_with fail
    go_ret
    exact ⟨rfl, hch⟩

set_option maxRecDepth 20000 in
set_option maxHeartbeats 1000000 in
theorem sameRats_any (xs : List Q3) (A B : Option Addr) (c d : Nat) (w : World) (hn : xs.length ≤ 1000000) (hx : Rds w A xs) (hy : Rds w B xs) :
    Calls Try.prog 44 #[.slice A xs.length c, .slice B xs.length d] w fun e w' => e = .returned (.bool true) ∧ Chg [] w w' := by
  have hch : Chg [] w w := Chg.refl _ _
  obtain ⟨n, HN⟩ := name_it xs.length
  rw [HN.out] at hn ⊢
  have hne : ((n : Int) == (n : Int)) = true := by simp
  go_enter Try.func44, Try.ntmps44
  go_wp2_with fail
  go_loopw [5] (fun iv wr => ∃ k : Nat, k ≤ n ∧ iv = .int .i64 k ∧ Rds wr A xs ∧ Rds wr B xs ∧ Chg [] w wr) (fun iv _ => n - (intOf iv).toNat)
  case atStart => exact ⟨0, Nat.zero_le _, rfl, hx, hy, hch⟩
  case round =>
    clear hx hy hch
    obtain ⟨k, hk, rfl, hx, hy, hch⟩ := hrel
    by_cases hlt : k < n
    · obtain ⟨g, o, rfl, _⟩ := hx.form (by rw [HN.out]; omega)
      obtain ⟨h, p, rfl, _⟩ := hy.form (by rw [HN.out]; omega)
      obtain ⟨_, a0, a1, a2⟩ := hx.at_ (j := k) (by rw [HN.out]; exact hlt)
      obtain ⟨_, d0, d1, d2⟩ := hy.at_ (j := k) (by rw [HN.out]; exact hlt)
      obtain ⟨s, HS⟩ := name_it (xs.getD k q0)
      rw [HS.out] at a0 a1 a2 d0 d1 d2
      have i1 : (0 : Int) ≤ (k : Int) := by omega
      have i2 : (k : Int) < (n : Int) := by omega
      go_wp2_with fail
      go_quiet (fail)
      go_wp2_with fail
      go_roundw
      case rel => exact ⟨k + 1, by omega, by go_num, hx.keep0 ((Chg.refl [] _).drewN _), hy.keep0 ((Chg.refl [] _).drewN _), hch.drewN _⟩
      case measure => simp [intOf]; omega
    · go_wp2_with fail
      go_ret
      exact ⟨rfl, hch⟩

set_option maxRecDepth 20000 in
set_option maxHeartbeats 2000000 in
theorem check_any (M : List (List Q3)) (A : Option Addr) (cap : Nat) (w : World) (hn : M.length ≤ 1000000) (hx : Mtx w A M) :
    Calls Try.prog 34 #[.slice A M.length cap] w fun e w' => e = .returned (.int .i64 (shapeE M : Nat)) ∧ Chg [] w w' := by
  have hch : Chg [] w w := Chg.refl _ _
  obtain ⟨n, HN⟩ := name_it M.length
  obtain ⟨r, HR⟩ := name_it (shapeE M)
  rw [HR.out]
  rw [HN.out] at hn ⊢
  by_cases h0 : n = 0
  · have hr : r = 4 := by rw [← HR.out]; exact shapeE_none (HN.out.trans h0)
    subst hr h0
    clear HR
    go_enter Try.func34, Try.ntmps34
    go_wp2_with fail
    go_ret
    exact ⟨rfl, hch⟩
  · obtain ⟨g, o, rfl, hgl⟩ := hx.form (by rw [HN.out]; omega)
    obtain ⟨B, c, c0, hBc, _, hB⟩ := hx.at_ (i := 0) (by rw [HN.out]; omega)
    rw [Nat.add_zero] at c0
    obtain ⟨l, HL⟩ := name_it (M.getD 0 []).length
    rw [HL.out] at c0 hBc
    have hn0 : ((n : Int) == 0) = false := by simp; omega
    have hn1 : 0 < n := by omega
    by_cases hl0 : l = 0
    · have hr : r = 4 := by rw [← HR.out]; exact shapeE_zero (HL.out.trans hl0)
      subst hr hl0
      clear HR hB
      go_enter Try.func34, Try.ntmps34
      go_wp2_with fail
      go_ret
      exact ⟨rfl, hch⟩
    · have hl1 : ((l : Int) == 0) = false := by simp; omega
      have hb0 : Hid (0 < n → w.cell? ⟨g, o, none⟩ = some (.slice B l c)) := Lib.hid fun _ => c0
      go_enter Try.func34, Try.ntmps34
      go_wp2_with fail
      go_loopw [17] (fun iv wr => ∃ k : Nat, k ≤ n ∧ iv = .int .i64 k ∧ (∀ i, i < k → (M.getD i []).length = l) ∧ Mtx wr (some ⟨g, o, none⟩) M ∧ Chg [] w wr) (fun iv _ => n - (intOf iv).toNat)
      case atStart => exact ⟨0, Nat.zero_le _, rfl, fun i h => absurd h (by omega), hx, hch⟩
      case round =>
        clear hx hch c0
        obtain ⟨k, hk, rfl, hall, hx, hch⟩ := hrel
        have ALL := Lib.hid hall
        clear hall
        have c0 : wr.cell? ⟨g, o, none⟩ = some (.slice B l c) := (hch.cell (p := ⟨g, o, none⟩) hgl (by simp)).trans (hb0.out hn1)
        by_cases hlt : k < n
        · obtain ⟨B2, c2, d0, _, _, _⟩ := hx.at_ (i := k) (by rw [HN.out]; exact hlt)
          obtain ⟨l2, HL2⟩ := name_it (M.getD k []).length
          rw [HL2.out] at d0
          by_cases he : l2 = l
          · subst he
            go_wp2_with fail
            go_roundw
            case rel => exact ⟨k + 1, by omega, by go_num, all_succ ALL.out HL2.out, hx, hch⟩
            case measure => simp [intOf]; omega
          · have hr : r = 4 := by rw [← HR.out]; exact shapeE_ne (i := k) (by rw [HN.out]; exact hlt) (by rw [HL2.out, HL.out]; exact he)
            subst hr
            clear HR
            have he2 : decide ((l2 : Int) = (l : Int)) = false := by simp; omega
            have he3 : decide (l2 = l) = false := by simp; omega
            go_wp2_with fail
            go_ret
            exact ⟨rfl, hch⟩
        · obtain rfl : k = n := by omega
          have hall : ∀ i, i < M.length → (M.getD i []).length = (M.getD 0 []).length := fun i hi => by rw [ALL.out i (by rw [← HN.out]; exact hi), HL.out]
          have HALL := Lib.hid hall
          clear hall
          by_cases h16 : 16 < k
          · have hr : r = 2 := by rw [← HR.out]; exact shapeE_long (by rw [HN.out]; exact h0) (by rw [HL.out]; exact hl0) HALL.out (.inl (by rw [HN.out]; exact h16))
            subst hr
            clear HR
            go_wp2_with fail
            go_ret
            exact ⟨rfl, hch⟩
          · by_cases hl16 : 16 < l
            · have hr : r = 2 := by rw [← HR.out]; exact shapeE_long (by rw [HN.out]; exact h0) (by rw [HL.out]; exact hl0) HALL.out (.inr (by rw [HL.out]; exact hl16))
              subst hr
              clear HR
              have t1 : decide ((16 : Int) < (k : Int)) = false := by simp; omega
              go_wp2_with fail
              go_ret
              exact ⟨rfl, hch⟩
            · have hr : r = 0 := by rw [← HR.out]; exact shapeE_good (by rw [HN.out]; exact h0) (by rw [HL.out]; exact hl0) HALL.out (by rw [HN.out]; omega) (by rw [HL.out]; omega)
              subst hr
              clear HR
              have t1 : decide ((16 : Int) < (k : Int)) = false := by simp; omega
              go_wp2_with fail
              go_ret
              exact ⟨rfl, hch⟩

end Go.Proofs.Ytpaochhaenehmaa
