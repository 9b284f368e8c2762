/-
  Law 3: LinearDeterminant.
-/
import Derived.Test.YtpaochhaenehmaaLX29
import Derived.Test.YtpaochhaenehmaaLX26
namespace Go.Proofs.Ytpaochhaenehmaa
open Go.RowKit Nd

theorem KR_det {n : Nat} (h : n ≤ 5) : (n + 2) * KR 24 n ≤ 4294967296 := by
  have h1 := KR_le 24 h
  have h2 := KR_pow 24 5
  have h3 : (n + 2) * KR 24 n ≤ 7 * 25600 := Nat.mul_le_mul (by omega) (by omega)
  omega
theorem Det_pair (M : List (List Q3)) (A : Option Addr) (cap : Nat) (hn : M.length ≤ 5) (hfit : shapeE M = 0 → ∀ i, i < M.length → ∀ j, j < (M.getD 0 []).length → fits ((M.getD i []).getD j q0) 24) :
    ∃ (s : Nat) (V : Rat) (k1 k2 : Nat),
      (∀ w : World, Mtx w A M → Calls Try.prog 8 #[.slice A M.length cap] w fun e w' => ∃ z, e = .returned (.tuple #[.agg #[.bool z.neg, .string z.num, .string z.den], .int .i64 (s : Int)]) ∧ Val z V k1 ∧ Chg [] w w') ∧
      (∀ w : World, Mtx w A M → Calls Try.prog 9 #[.slice A M.length cap] w fun e w' => ∃ z, e = .returned (.tuple #[.agg #[.bool z.neg, .string z.num, .string z.den], .int .i64 (s : Int)]) ∧ Val z V k2 ∧ Chg [] w w') := by
  by_cases hs : shapeE M = 0
  · by_cases hl : M.length = (M.getD 0 []).length
    · refine ⟨0, detF (matQ M) M.length, KK (24 + (1 + M.length * 24)) M.length + (8 + M.length * (1 + M.length * 24)), (M.length + 1) * KR 24 M.length, fun w hx => ?_, fun w hx => ?_⟩
      · exact Determinant_ok M A cap 24 w hx (squareE_zero hs hl) hn (by omega) (by omega) (hfit hs)
      · exact rDet_ok M A cap 24 w hx hs hl (by omega) (by omega) (KR_det hn) (hfit hs)
    · refine ⟨4, 0, 1, 1, fun w hx => ?_, fun w hx => ?_⟩
      · have h4 := squareE_four hs hl
        have := Determinant_bad M A cap w (by omega) hx (by omega)
        rw [h4] at this
        exact this.mono fun _ _ ⟨he, hc⟩ => ⟨q0, he, Val_zero, hc⟩
      · exact (rDet_four M A cap w hx hs hl).mono fun _ _ ⟨he, hc⟩ => ⟨q0, he, Val_zero, hc⟩
  · refine ⟨shapeE M, 0, 1, 1, fun w hx => ?_, fun w hx => ?_⟩
    · have h4 := squareE_bad hs
      have := Determinant_bad M A cap w (by omega) hx (by omega)
      rw [h4] at this
      exact this.mono fun _ _ ⟨he, hc⟩ => ⟨q0, he, Val_zero, hc⟩
    · exact (rDet_bad M A cap w (by omega) hx hs).mono fun _ _ ⟨he, hc⟩ => ⟨q0, he, Val_zero, hc⟩

set_option maxRecDepth 20000 in
set_option maxHeartbeats 4000000 in
theorem ldeterminant_any (M : List (List Q3)) (A : Option Addr) (cap : Nat) (w : World) (hM : Mtx w A M) :
    Calls Try.prog 3 #[.slice A M.length cap] w fun e w' => e = .returned (.bool true) ∧ Chg [] w w' := by
  have hch : Chg [] w w := Chg.refl _ _
  cases hf : (decide (M.length ≤ 5) && fewM 5 M)
  · have HF := Lib.hid hf
    clear hf
    go_enter Try.func3, Try.ntmps3
    go_wp2_with fail
    refine (fewRows_any M A cap 5 _ (by omega) hM).mono ?_
    rintro e w1 ⟨rfl, c1⟩
    rw [HF.out]
    replace hch := hch.then c1
    clear c1
    go_wp2_with fail
    refine (awake3_any _).mono ?_
    rintro e w2 ⟨rfl, c1⟩
    replace hch := hch.then c1
    clear c1
    go_wp2_with fail
    go_ret
    exact ⟨rfl, hch⟩
  · have HF := Lib.hid hf
    have hf2 : M.length ≤ 5 ∧ fewM 5 M = true := by simpa using hf
    have hm5 := hf2.1
    obtain ⟨s, V, k1, k2, DD, RR⟩ := Det_pair M A cap hm5 (fun hs => fewM_fits hf2.2 hs)
    have HD := Lib.hid DD
    have HR := Lib.hid RR
    clear hf hf2 DD RR
    go_enter Try.func3, Try.ntmps3
    go_wp2_with fail
    refine (fewRows_any M A cap 5 _ (by omega) hM).mono ?_
    rintro e w1 ⟨rfl, c1⟩
    rw [HF.out]
    replace hM := hM.keep0 c1
    replace hch := hch.then c1
    clear c1
    go_wp2_with fail
    refine (HD.out _ hM).mono ?_
    rintro e w2 ⟨z1, rfl, h1, c1⟩
    have H1 := Lib.hid h1
    clear h1
    have b1 := Blk3.alloc w2 (.bool z1.neg) (.string z1.num) (.string z1.den) 26
    have c2 : Chg [] w2 (w2.alloc (.cells #[.bool z1.neg, .string z1.num, .string z1.den] 26)) := (Chg.refl _ _).alloc _
    replace hM := (hM.keep0 c1).keep0 c2
    replace hch := (hch.then c1).then c2
    clear c1 c2
    go_wp2_with fail
    refine (HR.out _ hM).mono ?_
    rintro e w3 ⟨z2, rfl, h2, c1⟩
    obtain rfl : z2 = z1 := h2.unique H1.out
    clear h2
    replace b1 := b1.keep c1 (by simp)
    have b2 := Blk3.alloc w3 (.bool z2.neg) (.string z2.num) (.string z2.den) 26
    have c2 : Chg [] w3 (w3.alloc (.cells #[.bool z2.neg, .string z2.num, .string z2.den] 26)) := (Chg.refl _ _).alloc _
    replace b1 := b1.keep c2 (by simp)
    replace hch := (hch.then c1).then c2
    clear c1 c2 hM
    go_wp2_with fail
    refine (awake3_any _).mono ?_
    rintro e w4 ⟨rfl, c1⟩
    replace b1 := b1.keep c1 (by simp)
    replace b2 := b2.keep c1 (by simp)
    replace hch := hch.then c1
    clear c1
    have b1c0 := b1.c0
    have b1c1 := b1.c1
    have b1c2 := b1.c2
    have b1f0 := b1.f0
    have b1f1 := b1.f1
    have b1f2 := b1.f2
    have b1l := b1.lt
    have b2c0 := b2.c0
    have b2c1 := b2.c1
    have b2c2 := b2.c2
    have b2f0 := b2.f0
    have b2f1 := b2.f1
    have b2f2 := b2.f2
    have b2l := b2.lt
    go_wp2_with fail
    go_ret
    exact ⟨by simp, hch⟩

end Go.Proofs.Ytpaochhaenehmaa
