/-
  Party: the law PartyCheck.
-/
import Derived.Test.YtgdpcpbmjgaliaaPL1
import Derived.Test.YtgdpcpbmjgaliaaPR2
namespace Go.Proofs.Ytgdpcpbmjgaliaa
open Go.RowKit Nd

set_option maxRecDepth 20000 in
set_option maxHeartbeats 2000000 in
theorem lpcheck_any (p : PV) (w : World) (hp : p.At w) :
    Calls Try.prog 3 #[p.val] w fun e w' => e = .returned (.bool true) ∧ Chg [] w w' := by
  have b1 := box_p p w
  have hch := chg_p p w
  replace hp := hp.keep0 hch
  have b1c0 := b1.c0
  have b1c1 := b1.c1
  have b1c2 := b1.c2
  have HFW := Lib.hid (fun w h => few8_any p w h)
  have HFF : Hid (fewP p = true → FitS p.S 24) := Lib.hid fewP_fits
  obtain ⟨f, HFP⟩ := name_it (fewP p)
  rw [HFP.out] at HFW HFF
  cases f with
  | false =>
    go_enter Try.func3, Try.ntmps3
    go_wp2_with fail
    refine (HFW.out _ hp).mono ?_
    rintro e w1 ⟨rfl, c1⟩
    replace hch := hch.then c1
    clear c1 b1c0 b1c1 b1c2
    go_wp2_with fail
    refine (awake8_any _).mono ?_
    rintro e w2 ⟨rfl, c1⟩
    replace hch := hch.then c1
    clear c1
    go_wp2_with fail
    go_ret
    exact ⟨rfl, hch⟩
  | true =>
    have hF := HFF.out rfl
    have HC := Lib.hid (fun w h => check_any p 24 w h hF)
    have HR := Lib.hid (fun w h => rckp_any p 24 w h hF)
    obtain ⟨r, HRR⟩ := name_it (ckP p.K p.S p.T)
    rw [HRR.out] at HC HR
    clear hF
    go_enter Try.func3, Try.ntmps3
    go_wp2_with fail
    refine (HFW.out _ hp).mono ?_
    rintro e w1 ⟨rfl, c1⟩
    replace b1 := b1.keep0 c1
    replace hp := hp.keep0 c1
    replace hch := hch.then c1
    clear c1 b1c0 b1c1 b1c2
    go_wp2_with fail
    obtain ⟨g0, HG0⟩ := name_it w.heap.size
    rw [HG0.out] at b1 ⊢
    have c8 : Chg [] w1 w1.drew := (Chg.refl _ _).drew
    replace b1 := b1.keep0 c8
    replace hp := hp.keep0 c8
    replace hch := hch.then c8
    clear c8
    go_region_held3 (fun w' => w'.cell? ⟨g0, 0, none⟩ = some (.slice p.AK p.n p.cK) ∧ w'.cell? ⟨g0, 1, none⟩ = some (.slice p.AS p.m p.cS) ∧ w'.cell? ⟨g0, 2, none⟩ = some (.slice p.AT p.t p.cT)) (first | exact ⟨b1.c0, b1.c1, b1.c2⟩) (first
      | (go_at_call 13
         refine (awake8_any _).mono ?_
         rintro e w6 ⟨rfl, c6⟩
         replace b1 := b1.keep0 c6
         replace hp := hp.keep0 c6
         replace hch := hch.then c6
         clear c6)
      | (go_at_call 14
         refine (HC.out _ hp).mono ?_
         rintro e w7 ⟨rfl, c6⟩
         replace b1 := b1.keep0 c6
         replace hp := hp.keep0 c6
         replace hch := hch.then c6
         clear c6)
      | (go_at_call 15
         refine (HR.out _ hp).mono ?_
         rintro e w8 ⟨rfl, c6⟩
         replace b1 := b1.keep0 c6
         replace hp := hp.keep0 c6
         replace hch := hch.then c6
         clear c6)
      | fail)
    all_goals
      go_wp2_with fail
      go_ret
      exact ⟨ret_eq (by simp), hch⟩
end Go.Proofs.Ytgdpcpbmjgaliaa
