/-
  Law 3: LinearApply.
-/
import Derived.Test.YtnbajendnknejaaLX19
namespace Go.Proofs.Ytnbajendnknejaa
open Go.RowKit Nd
theorem Row1.unique {xs ys : List Q3} {p : Nat → Rat} {m k l : Nat} (h : Row1 xs p m k) (g : Row1 ys p m l) : xs = ys :=
  ext_getD (by rw [h.len, g.len]) fun j hj => (h.val j (by rw [← g.len]; exact hj)).unique (g.val j (by rw [← g.len]; exact hj))
theorem sameRats_n (xs : List Q3) (n : Nat) (A B : Option Addr) (c d : Nat) (w : World) (hl : xs.length = n) (hn : n ≤ 1000000) (hx : Rds w A xs) (hy : Rds w B xs) :
    Calls Try.prog 25 #[.slice A n c, .slice B n d] w fun e w' => e = .returned (.bool true) ∧ Chg [] w w' := by
  subst hl; exact sameRats_any xs A B c d w hn hx hy
theorem fewM_row {m : Nat} {M : List (List Q3)} (h : fewM m M = true) {i : Nat} (hi : i < M.length) : (M.getD i []).length ≤ m ∧ fewQ (M.getD i []) = true := by
  unfold fewM at h
  have := List.all_eq_true.1 h _ (mem_getM hi)
  simpa using this
theorem mem_getQ {xs : List Q3} {j : Nat} (h : j < xs.length) : xs.getD j q0 ∈ xs := by
  rw [List.getD_eq_getElem?_getD, List.getElem?_eq_getElem h]; exact List.getElem_mem h
theorem fewM_fits {m : Nat} {M : List (List Q3)} (h : fewM m M = true) (hs : shapeE M = 0) : ∀ i, i < M.length → ∀ j, j < (M.getD 0 []).length → fits ((M.getD i []).getD j q0) 24 := by
  intro i hi j hj
  exact fewQ_fits (fewM_row h hi).2 _ (mem_getQ (by rw [(shapeE_ok hs).2.2.1 i hi]; exact hj))

/-- The valid form of a number. -/
def can (q : Rat) : Q3 := ⟨decide (q.num < 0), nb q.num.natAbs, nb (if q.den = 1 then 0 else q.den)⟩
theorem can_enc (q : Rat) : Enc (can q) q := ⟨rfl, Is_nb _, Is_nb _⟩
theorem Enc.can {x : Q3} {q : Rat} (h : Enc x q) : x = can q := h.unique (can_enc q)
def canL (p : Nat → Rat) (n : Nat) : List Q3 := (List.range n).map fun j => can (p j)
theorem canL_length (p : Nat → Rat) (n : Nat) : (canL p n).length = n := by simp [canL]
theorem canL_get (p : Nat → Rat) {n j : Nat} (h : j < n) : (canL p n).getD j q0 = can (p j) := by simp [canL, List.getD_eq_getElem?_getD, h]
theorem Row1.can {xs : List Q3} {p : Nat → Rat} {m k : Nat} (h : Row1 xs p m k) : xs = canL p m :=
  ext_getD (by rw [h.len, canL_length]) fun j hj => by rw [canL_length] at hj; rw [canL_get p hj]; exact (h.val j hj).enc.can
theorem ext_getM {M N : List (List Q3)} (hl : M.length = N.length) (h : ∀ j, j < N.length → M.getD j [] = N.getD j []) : M = N := by
  apply List.ext_getElem hl
  intro j h1 h2
  have := h j h2
  simpa [List.getD_eq_getElem?_getD, h1, h2] using this
def canM (f : Nat → Nat → Rat) (n m : Nat) : List (List Q3) := (List.range n).map fun i => canL (f i) m
theorem canM_length (f : Nat → Nat → Rat) (n m : Nat) : (canM f n m).length = n := by simp [canM]
theorem canM_get (f : Nat → Nat → Rat) {n i : Nat} (m : Nat) (h : i < n) : (canM f n m).getD i [] = canL (f i) m := by simp [canM, List.getD_eq_getElem?_getD, h]
theorem Vals.can {M : List (List Q3)} {f : Nat → Nat → Rat} {n m k : Nat} (h : Vals M f n m k) : M = canM f n m :=
  ext_getM (by rw [h.len, canM_length]) fun j hj => by rw [canM_length] at hj; rw [canM_get f m hj]; exact (h.at_ hj).can

/-- Apply and the reference's Apply answer the same. -/
theorem Apply_pair (M : List (List Q3)) (xs : List Q3) (A B : Option Addr) (cap cb : Nat) (hn : M.length ≤ 1000000) (hfit : shapeE M = 0 → ∀ i, i < M.length → ∀ j, j < (M.getD 0 []).length → fits ((M.getD i []).getD j q0) 24) (hfx : ∀ j, j < xs.length → fits (xs.getD j q0) 24) :
    ∃ (s : Nat) (zs : List Q3), zs.length ≤ 16 ∧
      (∀ w, Mtx w A M → Rds w B xs → Calls Try.prog 23 #[.slice A M.length cap, .slice B xs.length cb] w fun e w' => ∃ B2 c2, e = .returned (.tuple #[.slice B2 zs.length c2, .int .i64 (s : Nat)]) ∧ Rds w' B2 zs ∧ Chg [] w w') ∧
      (∀ w, Mtx w A M → Rds w B xs → Calls Try.prog 24 #[.slice A M.length cap, .slice B xs.length cb] w fun e w' => ∃ B2 c2, e = .returned (.tuple #[.slice B2 zs.length c2, .int .i64 (s : Nat)]) ∧ Rds w' B2 zs ∧ Chg [] w w') := by
  by_cases hs : shapeE M = 0
  · by_cases hl : xs.length = (M.getD 0 []).length
    · refine ⟨0, canL (fun i => sumF (fun j => ratOf ((M.getD i []).getD j q0) * ratOf (xs.getD j q0)) (M.getD 0 []).length) M.length, by rw [canL_length]; exact (shapeE_ok hs).2.2.2.1, fun w hM hx => ?_, fun w hM hx => ?_⟩
      · refine (Apply_ok M xs A B cap cb 24 w hn hM hx hs hl (by omega) (by omega) (hfit hs) (fun j hj => hfx j (by omega))).mono ?_
        rintro e w1 ⟨g, zs, rfl, _, hz, hN, c1⟩
        have hr := hN.rds
        rw [hz.can] at hr
        exact ⟨_, M.length, by rw [canL_length]; rfl, hr, c1⟩
      · refine (rApply_ok M xs A B cap cb 24 w hM hx hs hl (by omega) (by omega) (hfit hs) (fun j hj => hfx j (by omega))).mono ?_
        rintro e w1 ⟨v, zs, rfl, hO, hz, c1⟩
        obtain ⟨A2, c2, rfl, _, _, hr⟩ := hO.rds
        rw [hz.can] at hr ⊢
        exact ⟨A2, c2, rfl, hr, c1⟩
    · refine ⟨4, [], by simp, fun w hM hx => ?_, fun w hM hx => ?_⟩
      · refine (Apply_len M xs A B cap cb w hn hM hs hl).mono ?_
        rintro e w1 ⟨rfl, c1⟩
        exact ⟨none, 0, rfl, Rds.nil _ _, c1⟩
      · refine (rApply_len M xs A B cap cb w hM hs hl).mono ?_
        rintro e w1 ⟨rfl, c1⟩
        exact ⟨none, 0, rfl, Rds.nil _ _, c1⟩
  · refine ⟨shapeE M, [], by simp, fun w hM hx => ?_, fun w hM hx => ?_⟩
    · refine (Apply_bad M xs A B cap cb w hn hM hs).mono ?_
      rintro e w1 ⟨rfl, c1⟩
      exact ⟨none, 0, rfl, Rds.nil _ _, c1⟩
    · refine (rApply_bad M xs A B cap cb w hn hM hs).mono ?_
      rintro e w1 ⟨rfl, c1⟩
      exact ⟨none, 0, rfl, Rds.nil _ _, c1⟩

set_option maxRecDepth 20000 in
set_option maxHeartbeats 4000000 in
theorem lapply_any (M : List (List Q3)) (xs : List Q3) (A B : Option Addr) (cap cb : Nat) (w : World) (hM : Mtx w A M) (hx : Rds w B xs) :
    Calls Try.prog 3 #[.slice A M.length cap, .slice B xs.length cb] w fun e w' => e = .returned (.bool true) ∧ Chg [] w w' := by
  have hch : Chg [] w w := Chg.refl _ _
  cases hf : (decide (M.length ≤ 5) && fewM 5 M)
  · have HF := Lib.hid hf
    clear hf
    go_enter Try.func3, Try.ntmps3
    go_wp2_with fail
    refine (fewRows_any M A cap 5 _ (by omega) hM).mono ?_
    rintro e w1 ⟨rfl, c1⟩
    rw [HF.out]
    replace hch := hch.then c1
    clear c1
    go_wp2_with fail
    refine (awake3_any _).mono ?_
    rintro e w2 ⟨rfl, c1⟩
    replace hch := hch.then c1
    clear c1
    go_wp2_with fail
    go_ret
    exact ⟨rfl, hch⟩
  · have HF := Lib.hid hf
    have hf2 : M.length ≤ 5 ∧ fewM 5 M = true := by simpa using hf
    have hm5 := hf2.1
    have HFM := Lib.hid hf2.2
    clear hf hf2
    cases hg : (decide (xs.length ≤ 6) && fewQ xs)
    · have HG := Lib.hid hg
      clear hg
      go_enter Try.func3, Try.ntmps3
      go_wp2_with fail
      refine (fewRows_any M A cap 5 _ (by omega) hM).mono ?_
      rintro e w1 ⟨rfl, c1⟩
      rw [HF.out]
      replace hx := hx.keep0 c1
      replace hch := hch.then c1
      clear c1
      go_wp2_with fail
      refine (fewRds_any xs B cb 6 _ (by omega) hx).mono ?_
      rintro e w2 ⟨rfl, c1⟩
      rw [HG.out]
      replace hx := hx.keep0 c1
      replace hch := hch.then c1
      clear c1
      go_wp2_with fail
      refine (awake3_any _).mono ?_
      rintro e w3 ⟨rfl, c1⟩
      replace hch := hch.then c1
      clear c1
      go_wp2_with fail
      go_ret
      exact ⟨rfl, hch⟩
    · have HG := Lib.hid hg
      have hg2 : xs.length ≤ 6 ∧ fewQ xs = true := by simpa using hg
      have hx6 := hg2.1
      have FX := Lib.hid (fewQ_fits hg2.2)
      clear hg hg2
      obtain ⟨s, zs, hzl, AP, RP⟩ := Apply_pair M xs A B cap cb (by omega) (fun hs => fewM_fits HFM.out hs) (fun j hj => FX.out _ (mem_getQ hj))
      have HAP := Lib.hid AP
      have HRP := Lib.hid RP
      obtain ⟨n, HN⟩ := name_it zs.length
      rw [HN.out] at hzl HAP HRP
      clear AP RP
      go_enter Try.func3, Try.ntmps3
      go_wp2_with fail
      refine (fewRows_any M A cap 5 _ (by omega) hM).mono ?_
      rintro e w1 ⟨rfl, c1⟩
      rw [HF.out]
      replace hM := hM.keep0 c1
      replace hx := hx.keep0 c1
      replace hch := hch.then c1
      clear c1
      go_wp2_with fail
      refine (fewRds_any xs B cb 6 _ (by omega) hx).mono ?_
      rintro e w2 ⟨rfl, c1⟩
      rw [HG.out]
      replace hM := hM.keep0 c1
      replace hx := hx.keep0 c1
      replace hch := hch.then c1
      clear c1
      go_wp2_with fail
      refine (HAP.out _ hM hx).mono ?_
      rintro e w3 ⟨B2, c2, rfl, hr2, c1⟩
      replace hM := hM.keep0 c1
      replace hx := hx.keep0 c1
      replace hch := hch.then c1
      clear c1
      go_wp2_with fail
      refine (HRP.out _ hM hx).mono ?_
      rintro e w4 ⟨B3, c3, rfl, hr3, c1⟩
      replace hM := hM.keep0 c1
      replace hx := hx.keep0 c1
      replace hr2 := hr2.keep0 c1
      replace hch := hch.then c1
      clear c1
      go_wp2_with fail
      refine (awake3_any _).mono ?_
      rintro e w5 ⟨rfl, c1⟩
      replace hr2 := hr2.keep0 c1
      replace hr3 := hr3.keep0 c1
      replace hch := hch.then c1
      clear c1
      go_wp2_with fail
      refine (sameRats_n zs n B2 B3 c2 c3 _ HN.out (by omega) hr2 hr3).mono ?_
      rintro e w6 ⟨rfl, c1⟩
      replace hch := hch.then c1
      clear c1
      go_wp2_with fail
      go_ret
      exact ⟨ret_eq (by simp), hch⟩

end Go.Proofs.Ytnbajendnknejaa
